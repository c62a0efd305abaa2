/-
  What LeafTimes returns, for all schemas, all points and every moment.
-/
import Derived.Test.YtlbjbkhcnafhcaaGreatP50Union
import Derived.Test.YtlbjbkhcnafhcaaGreatP51RUnionOk
namespace Go.Proofs.YtlbjbkhcnafhcaaGreat
open Go.RowKit Go.Sort Go.Shelf Go.Maps

theorem union_is {s t : Value} {cs ds ec : List Cl} {rs qs er : List Rw} {w : World} {z : Int} (hs : TabAt w s cs rs) (ht : TabAt w t ds qs) (hl : rs.length + qs.length ≤ 4096) (e1 : unionE cs rs ds qs = z) (e2 : unionC cs rs ds qs = ec) (e3 : unionR cs rs ds qs = er) :
    Calls Tryz.prog 19 #[s, t] w fun e w' => ∃ pc nc cc pr nr cr, e = .returned (.tuple #[.agg #[.slice pc nc cc, .slice pr nr cr], .int .i64 z]) ∧ TabAt w' (.agg #[.slice pc nc cc, .slice pr nr cr]) ec er ∧ Below w.heap.size w w' := by
  refine (runion_any hs ht hl).mono ?_
  rintro e w' ⟨v, he, h1, h2⟩
  rw [e1] at he
  rw [e2, e3] at h1
  have h3 := h1
  obtain ⟨c, r, rfl, ⟨pc, cc, rfl, -⟩, hs', ⟨pr, cr, rfl, -⟩, -⟩ := h1
  exact ⟨_, _, _, _, _, _, he, h3, h2⟩
theorem same_is {u v : Value} {cs ds : List Cl} {rs qs : List Rw} {w : World} {z : Bool} (hu : TabAt w u cs rs) (hv : TabAt w v ds qs) (h : decide (cs = ds ∧ rs = qs) = z) : Calls Tryz.prog 15 #[u, v] w fun e w' => e = .returned (.bool z) ∧ Below w.heap.size w w' := by rw [← h]; exact rsame_any hu hv
theorem scan_f {w0 w : World} {b : Nat} {S : List Sc} {room : Int} {x : Lx} {pts : List Pt} {nm : ByteArray} {a z : Int} {er : Int} {cs : List Cl} {rs : List Rw} (h : Lv w0 w b S room x pts) (hc : checkS S = 0) (hl : pts.length ≤ 254) (hz : ∀ p ∈ pts, List.length p.ks ≤ 4 ∧ List.length p.vs ≤ 4) (e1 : scE S nm = er) (e2 : scC S nm = cs) (e3 : scR S pts nm a z = rs) :
    Calls Tryz.prog 13 #[dp b, .string nm, .int .i64 a, .int .i64 z] w fun e w' => ∃ pc nc cc pr cr, e = .returned (.tuple #[.agg #[.slice pc nc cc, .slice pr rs.length cr], .int .i64 er]) ∧ TabAt w' (.agg #[.slice pc nc cc, .slice pr rs.length cr]) cs rs ∧ Below w.heap.size w w' := by
  refine (scan_v h hc hl hz e1 e2 e3).mono ?_
  rintro e w' ⟨v, rfl, ht, hb⟩
  obtain ⟨pc, nc, cc, pr, cr, rfl⟩ := tab_len ht
  exact ⟨pc, nc, cc, pr, cr, rfl, ht.at, hb⟩
set_option maxRecDepth 100000 in
set_option maxHeartbeats 1000000 in
theorem times_bad {w : World} {p : Option Addr} {cap n : Nat} {S : List Sc} {v : Value} {at' : Int} (hs : SchsAt w (.slice p n cap) S) (hn : n = S.length) (hc : checkS (S.take 10) = 50) :
    Calls Tryz.prog 6 #[.slice p n cap, v, .int .i64 at'] w fun e w' => e = .returned (.bool true) ∧ Below w.heap.size w w' := by
  have HC := hid hc
  have HS := hid hs
  have hcap : n ≤ cap := by obtain ⟨hs', ⟨p', cap', hv, hc', _⟩, hh⟩ := hs; cases hv; exact hc'.1
  have hnm : n ≤ 9223372036854775807 := by obtain ⟨hs', ⟨p', cap', hv, hc', hm, _⟩, hh⟩ := hs; cases hv; unfold maxLen at hm; omega
  have HN := hid hn
  clear hs hc hn
  by_cases h10 : 10 < n
  · have HS10 := hid (schs_take HS.out (show 10 ≤ n by omega))
    go_enter Tryz.func6, Tryz.ntmps6
    go_wp2_with (first
      | (go_at_call 7; refine shown_is.mono ?_; rintro e w1 ⟨rfl, hb1⟩; have HB1 := hid hb1; clear hb1)
      | (go_at_call 8; refine (lnew_bad (room := 1000) (HS10.out.on HB1.out) HC.out).mono ?_; rintro e w3 ⟨rfl, hb3⟩; have HB3 := hid (HB1.out.trans (hb3.mono HB1.out.size)); clear hb3))
    go_ret
    exact ⟨rfl, HB3.out⟩
  · have HC' : Hid (checkS S = 50) := by have := HC.out; rw [List.take_of_length_le (by rw [← HN.out]; omega)] at this; exact this
    go_enter Tryz.func6, Tryz.ntmps6
    go_wp2_with (first
      | (go_at_call 7; refine shown_is.mono ?_; rintro e w1 ⟨rfl, hb1⟩; have HB1 := hid hb1; clear hb1)
      | (go_at_call 8; refine (lnew_bad (room := 1000) (HS.out.on HB1.out) HC'.out).mono ?_; rintro e w3 ⟨rfl, hb3⟩; have HB3 := hid (HB1.out.trans (hb3.mono HB1.out.size)); clear hb3))
    go_ret
    exact ⟨rfl, HB3.out⟩
theorem sch_name {w : World} {p : Option Addr} {n cap : Nat} {S : List Sc} (h : SchsAt w (.slice p n cap) S) {k : Nat} {s : Sc} (hk : S[k]? = some s) : ∃ g o, p = some ⟨g, o, none⟩ ∧ w.cell? ⟨g, o + k * 3, none⟩ = some (.string s.nm) := by
  obtain ⟨hs, ⟨p', cap', hv, hc, hmx, hx⟩, hh⟩ := h
  cases hv
  have hkl : k < hs.length := by rw [hh.1]; exact (List.getElem?_eq_some_iff.1 hk).1
  obtain ⟨g, o, hp, -, hcell⟩ := hx (by intro e; rw [e] at hkl; simp at hkl)
  have h1 := hcell k _ (List.getElem?_eq_getElem hkl) 0 _ rfl
  rw [(hh.2 k _ _ (List.getElem?_eq_getElem hkl) hk).nm, Nat.add_zero] at h1
  exact ⟨g, o, hp, h1⟩
set_option maxRecDepth 100000 in
set_option maxHeartbeats 8000000 in
theorem times_ok {w : World} {p : Option Addr} {cap n : Nat} {S : List Sc} {v : Value} {l : List Pt} {at' : Int} (hs : SchsAt w (.slice p n cap) S) (hn : n = S.length) (hv : PtsA w v l) (hat : Ok64 at') (hc : checkS S = 0) :
    Calls Tryz.prog 6 #[.slice p n cap, v, .int .i64 at'] w fun e w' => e = .returned (.bool true) ∧ Below w.heap.size w w' := by
  have HC := hid hc
  have HS := hid hs
  have hn8 : n ≤ 8 := by rw [hn]; exact (check_parts0 hc).1.2
  have hcap : n ≤ cap := by obtain ⟨hs', ⟨p', cap', hv, hc', _⟩, hh⟩ := hs; cases hv; exact hc'.1
  have HN := hid hn
  obtain ⟨pl, capl, rfl, hcapl, hmax, hrg, hx⟩ := hv
  have HRg := hid hrg
  have HX := hid hx
  have HAt := hid hat
  unfold maxLen at hmax
  clear hrg hx hs hc hn hat
  generalize hnl : l.length = nl at *
  have HNl := hid hnl
  clear hnl
  go_enter Tryz.func6, Tryz.ntmps6
  go_wp2_with (first
    | (go_at_call 7; refine shown_is.mono ?_; rintro e w1 ⟨rfl, hb1⟩; have HB1 := hid hb1; clear hb1)
    | (go_at_call 8; refine (new_v (room := 1000) (HS.out.on HB1.out) HC.out HB1.out).mono ?_; rintro e w3 ⟨b, x0, rfl, hl3, -, -⟩; have HL3 := hid hl3; clear hl3))
  go_loopw [10] (fun i wr => ∃ (k : Nat) (x : Lx) (pts : List Pt), k ≤ nl ∧ k ≤ 100 ∧ i = .int .i64 k ∧ Hid (pts.length ≤ k) ∧ Hid (Lv w wr b S 1000 x pts) ∧ Hid (∀ q ∈ pts, fitsS S q = 0)) (fun i _ => 100 - (intOf i).toNat)
  case atStart => exact ⟨0, x0, [], by omega, by omega, rfl, Nat.le_refl _, HL3.out, fun q hq => by cases hq⟩
  case round =>
    obtain ⟨k, x, pts, hk, hk2, rfl, HPk, HL, HFt⟩ := hrel
    by_cases hlt : k < nl ∧ k < 100
    · obtain ⟨hlt1, hlt2⟩ := hlt
      have hk' : k < l.length := by rw [HNl.out]; exact hlt1
      obtain ⟨q, hq⟩ : ∃ q, l[k]? = some q := ⟨l[k], List.getElem?_eq_getElem hk'⟩
      obtain ⟨g, o, pk, ck, pv, cv, rfl, hpc⟩ := HX.out k q hq
      have HPc := hid hpc
      have HRq := hid (HRg.out q (List.mem_of_getElem? hq)).1
      obtain ⟨c0, c1, c2, c3, -, -⟩ := hpc.on HL.out.bel
      obtain ⟨r1, hr1⟩ : ∃ r, wrN S 1000 pts q = r := ⟨_, rfl⟩
      obtain ⟨z1, hz1⟩ : ∃ r, wrE S 1000 pts q = r := ⟨_, rfl⟩
      have HR1 := hid hr1
      have HZ1 := hid hz1
      have HFt' := hid (wrL_fit (room := 1000) (p := q) HFt.out)
      have HLn : Hid ((wrL S 1000 pts q).length ≤ k + 1) := by show _ ≤ _; rw [wrL_len]; have := HPk.out; split <;> omega
      clear hk' hq hpc hr1 hz1
      go_wp2_with (go_at_call 11; refine (write_v HL.out (HL.out.arg HPc.out.pt) HC.out (by have := HPk.out; omega) HRq.out HR1.out HZ1.out rfl).mono ?_; rintro e w5 ⟨rfl, x5, hl5, -, -⟩; have HL5 := hid hl5; clear hl5)
      exact ⟨⟨k + 1, x5, _, by omega, by omega, by go_num, HLn.out, HL5.out, HFt'.out⟩, by simp [intOf]; omega⟩
    · obtain ⟨W1, hW1⟩ : ∃ W, W = wr := ⟨wr, rfl⟩
      subst hW1
      have hpl : pts.length ≤ 100 := Nat.le_trans HPk.out hk2
      have HPl := hid hpl
      go_upto_region 10 with fail
      go_cut [51] from 44 to 59 (fun cv wx => cv = .bool false ∧ wx = W1)
      case first =>
        rcases (show ¬ k < nl ∨ (k < nl ∧ ¬ k < 100) by omega) with h1 | ⟨h1, h2⟩
        · go_wp2
          go_meet
          exact ⟨rfl, rfl⟩
        · go_wp2
          go_meet
          exact ⟨by simp; omega, rfl⟩
      case rest =>
        obtain ⟨hu51, hwc⟩ := hcut
        subst hu51
        replace hwc := hwc.symm
        subst hwc
        clear hpl
        have HTm := hid (fit_tm HC.out HFt.out)
        have HSz := hid (fit_sz HC.out HFt.out)
        by_cases hmx : at' = 9223372036854775807
        · subst hmx
          have hbe := HL.out.bel
          go_wp2
          go_ret
          exact ⟨rfl, hbe⟩
        · have hbq : (at' == 9223372036854775807) = false := by simp [hmx]
          go_wp2
          have hlo : -9223372036854775808 ≤ at' := HAt.out.1
          have hhi : at' ≤ 9223372036854775806 := by have := HAt.out.2; omega
          have hL1 := HL.out
          clear hlt hmx
          go_loopw [11, 12] (fun r i wr => ∃ (j : Nat), j ≤ n ∧ r = .int .i64 (cntN pts ((S.take j).map Sc.nm) : Nat) ∧ i = .int .i64 j ∧ Hid (Lv w wr b S 1000 x pts)) (fun _ i _ => n - (intOf i).toNat)
          case atStart => exact ⟨0, by omega, by rw [List.take_zero, List.map_nil, cnt_nil]; rfl, rfl, hL1⟩
          case round =>
            obtain ⟨j, hj, rfl, rfl, HLj⟩ := hrel
            obtain ⟨W2, hW2⟩ : ∃ W, W = wr := ⟨wr, rfl⟩
            subst hW2
            clear hL1
            have hcnt := Nat.le_trans (cnt_le pts ((S.take j).map Sc.nm)) HPl.out
            by_cases hjl : j < n
            · have hj' : j < S.length := by rw [← HN.out]; exact hjl
              obtain ⟨s, hs⟩ : ∃ s, S[j]? = some s := ⟨S[j], List.getElem?_eq_getElem hj'⟩
              obtain ⟨g, o, rfl, hcell⟩ := sch_name HS.out hs
              have HCell : Hid (∀ W, Lv w W b S 1000 x pts → W.cell? ⟨g, o + j * 3, none⟩ = some (.string s.nm)) := fun W hW => SN.cell_onB hcell hW.bel
              obtain ⟨-, e1, e2, e3⟩ := sc_at HC.out hs
              obtain ⟨u1, u2, u3⟩ := union_cut HC.out HFt.out hs (a := -9223372036854775808) (m := at') (z := 9223372036854775807) hlo (by omega)
              have hsn := cnt_snoc (name_new HC.out hs) HTm.out
              rw [← names_take hs] at hsn
              have HE1 := hid e1
              have HE2 := hid e2
              have HE3 := hid e3
              have HU1 := hid u1
              have HU2 := hid u2
              have HU3 := hid u3
              have HSn := hid hsn
              have hl1 := scan_le pts s.nm (-9223372036854775808) at'
              have hl2 := scan_le pts s.nm (at' + 1) 9223372036854775807
              have hl3 := scan_le pts s.nm (-9223372036854775808) 9223372036854775807
              have HLs : Hid ((sortR (scanR pts s.nm (-9223372036854775808) at')).length + (sortR (scanR pts s.nm (at' + 1) 9223372036854775807)).length ≤ 4096) := by have := HPl.out; show _ ≤ _; omega
              have HL3' : Hid ((sortR (scanR pts s.nm (-9223372036854775808) 9223372036854775807)).length = (scanR pts s.nm (-9223372036854775808) 9223372036854775807).length) := sortR_length _
              clear e1 e2 e3 u1 u2 u3 hsn hs hj' hcell hl1 hl2 hl3
              generalize hcm : cntN pts ((S.take j).map Sc.nm) = m at *
              clear hcm
              have q0 := HCell.out _ HLj.out
              go_upto_region 20 with (go_at_call 13; refine (scan_f (nm := s.nm) (a := -9223372036854775808) (z := at') HLj.out HC.out (by have := HPl.out; omega) HSz.out HE1.out HE2.out (HE3.out _ _ _)).mono ?_; rintro e w4 ⟨pc4, nc4, cc4, pr4, cr4, rfl, ht4, hb4⟩; have HT4 := hid ht4; have HB4 := hid hb4; clear ht4 hb4 q0)
              generalize hn4 : (sortR (scanR pts s.nm (-9223372036854775808) at')).length = n4 at *
              have HN4 := hid hn4
              have hb5 := HB4.out.alloc HB4.out.size (.cells #[.slice pc4 nc4 cc4, .slice pr4 n4 cr4] 44)
              have K4 := hid (alloc_block w4 (.cells #[.slice pc4 nc4 cc4, .slice pr4 n4 cr4] 44))
              have HT5 := hid (HT4.out.on ((Below.refl _ _).alloc (Nat.le_refl _) (.cells #[.slice pc4 nc4 cc4, .slice pr4 n4 cr4] 44)))
              have HL5 := hid (HLj.out.on hb5)
              clear hb5 HT4 HB4 hn4
              generalize w4.heap.size = B4 at *
              generalize (w4.alloc (.cells #[.slice pc4 nc4 cc4, .slice pr4 n4 cr4] 44)) = W5 at *
              have q0 := HCell.out _ HL5.out
              have hw1 : wrap64 (at' + 1) = at' + 1 := by unfold wrap64; omega
              go_upto_region 21 with (go_at_call 13; refine (scan_f (nm := s.nm) (a := at' + 1) (z := 9223372036854775807) HL5.out HC.out (by have := HPl.out; omega) HSz.out HE1.out HE2.out (HE3.out _ _ _)).mono ?_; rintro e w6 ⟨pc6, nc6, cc6, pr6, cr6, rfl, ht6, hb6⟩; have HT6 := hid ht6; have HB6 := hid hb6; clear ht6 hb6 q0)
              generalize hn6 : (sortR (scanR pts s.nm (at' + 1) 9223372036854775807)).length = n6 at *
              have HN6 := hid hn6
              have hb7 := HB6.out.alloc HB6.out.size (.cells #[.slice pc6 nc6 cc6, .slice pr6 n6 cr6] 44)
              have K6 := hid (alloc_block w6 (.cells #[.slice pc6 nc6 cc6, .slice pr6 n6 cr6] 44))
              have HT7 := hid (HT6.out.on ((Below.refl _ _).alloc (Nat.le_refl _) (.cells #[.slice pc6 nc6 cc6, .slice pr6 n6 cr6] 44)))
              have K47 := hid (block_on K4.out hb7)
              have HT57 := hid (HT5.out.on hb7)
              have HL7 := hid (HL5.out.on hb7)
              clear hb7 HT6 HB6 hn6 HT5 K4 hw1
              generalize w6.heap.size = B6 at *
              generalize (w6.alloc (.cells #[.slice pc6 nc6 cc6, .slice pr6 n6 cr6] 44)) = W7 at *
              have q0 := HCell.out _ HL7.out
              go_upto_region 22 with (go_at_call 13; refine (scan_f (nm := s.nm) (a := -9223372036854775808) (z := 9223372036854775807) HL7.out HC.out (by have := HPl.out; omega) HSz.out HE1.out HE2.out (HE3.out _ _ _)).mono ?_; rintro e w8 ⟨pc8, nc8, cc8, pr8, cr8, rfl, ht8, hb8⟩; have HT8 := hid ht8; have HB8 := hid hb8; clear ht8 hb8 q0)
              rw [HL3'.out] at HT8 ⊢
              generalize hn8' : (scanR pts s.nm (-9223372036854775808) 9223372036854775807).length = n8 at *
              have hb9 := HB8.out.alloc HB8.out.size (.cells #[.slice pc8 nc8 cc8, .slice pr8 n8 cr8] 44)
              have K8 := hid (alloc_block w8 (.cells #[.slice pc8 nc8 cc8, .slice pr8 n8 cr8] 44))
              have HT9 := hid (HT8.out.on ((Below.refl _ _).alloc (Nat.le_refl _) (.cells #[.slice pc8 nc8 cc8, .slice pr8 n8 cr8] 44)))
              have K49 := hid (block_on K47.out hb9)
              have K69 := hid (block_on K6.out hb9)
              have HT59 := hid (HT57.out.on hb9)
              have HT79 := hid (HT7.out.on hb9)
              have HL9 := hid (HL7.out.on hb9)
              have hn8l : n8 ≤ 100 := by rw [← HL3'.out]; exact Nat.le_trans (scan_le pts s.nm _ _) HPl.out
              clear hb9 HT8 HB8 hn8' HT7 HT57 K47 K6
              generalize w8.heap.size = B8 at *
              generalize (w8.alloc (.cells #[.slice pc8 nc8 cc8, .slice pr8 n8 cr8] 44)) = W9 at *
              have k4 := block_cell K49.out
              have k6 := block_cell K69.out
              go_upto_region 23 with (go_at_call 19; refine (union_is HT59.out HT79.out (by rw [HN4.out, HN6.out]; exact HLs.out) HU1.out HU2.out HU3.out).mono ?_; rintro e w10 ⟨pc10, nc10, cc10, pr10, nr10, cr10, rfl, ht10, hb10⟩; have HT10 := hid ht10; have HB10 := hid hb10; clear ht10 hb10 k4 k6)
              have hb11 := HB10.out.alloc HB10.out.size (.cells #[.slice pc10 nc10 cc10, .slice pr10 nr10 cr10] 44)
              have K10 := hid (alloc_block w10 (.cells #[.slice pc10 nc10 cc10, .slice pr10 nr10 cr10] 44))
              have HT11 := hid (HT10.out.on ((Below.refl _ _).alloc (Nat.le_refl _) (.cells #[.slice pc10 nc10 cc10, .slice pr10 nr10 cr10] 44)))
              have K811 := hid (block_on K8.out hb11)
              have HT911 := hid (HT9.out.on hb11)
              have HL11 := hid (HL9.out.on hb11)
              clear hb11 HT10 HB10 HT9 K8 K49 K69 HT59 HT79
              generalize w10.heap.size = B10 at *
              generalize (w10.alloc (.cells #[.slice pc10 nc10 cc10, .slice pr10 nr10 cr10] 44)) = W11 at *
              have k8 := block_cell K811.out
              have k10 := block_cell K10.out
              go_wp2_with (go_at_call 15; refine (same_is HT11.out HT911.out (decide_eq_true ⟨rfl, rfl⟩)).mono ?_; rintro e w12 ⟨rfl, hb12⟩; have HL12 := hid (HL11.out.on hb12); have k12 := block_cell (block_on K811.out hb12); clear hb12 k8 k10)
              go_roundw
              case rel => exact ⟨j + 1, by omega, by rw [HSn.out]; congr 1, by go_num, HL12.out⟩
              case measure => simp [intOf]; omega
            · have hjn : j = n := by omega
              subst hjn
              have hta : S.take j = S := List.take_of_length_le (by rw [← HN.out]; exact Nat.le_refl _)
              have hcA := cnt_all HC.out HFt.out
              rw [hta, hcA]
              have HLj' := hid HLj.out
              go_wp2_with (go_at_call 16; refine (points_v HLj'.out rfl).mono ?_; rintro e w12 ⟨rfl, hw12⟩; subst hw12)
              go_ret
              exact ⟨rfl, HLj'.out.bel⟩
theorem times_any {w : World} {u v : Value} {S : List Sc} {l : List Pt} {at' : Int} (hs : SchsAt w u S) (hv : PtsA w v l) (hat : Ok64 at') :
    Calls Tryz.prog 6 #[u, v, .int .i64 at'] w fun e w' => e = .returned (.bool true) ∧ Below w.heap.size w w' := by
  have hs' := hs
  obtain ⟨hs0, ⟨p, cap, rfl, -⟩, hh⟩ := hs
  rcases check_two S with hc | hc
  · exact times_ok hs' hh.1 hv hat hc
  · refine times_bad hs' hh.1 ?_
    by_cases h10 : S.length ≤ 10
    · rw [List.take_of_length_le h10]; exact hc
    · exact check_long (by rw [List.length_take]; omega)
end Go.Proofs.YtlbjbkhcnafhcaaGreat
