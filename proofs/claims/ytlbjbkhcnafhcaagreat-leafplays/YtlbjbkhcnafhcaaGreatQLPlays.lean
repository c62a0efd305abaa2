/-
  What LeafPlays returns, for all schemas, every room and all points.
-/
import Derived.Test.YtlbjbkhcnafhcaaGreatP53LPl
namespace Go.Proofs.YtlbjbkhcnafhcaaGreat
open Go.RowKit Go.Sort Go.Shelf Go.Maps

set_option maxRecDepth 100000 in
set_option maxHeartbeats 8000000 in
theorem plays_ok {w : World} {p : Option Addr} {cap n : Nat} {S : List Sc} {v : Value} {l : List Pt} {room : Int} (hs : SchsAt w (.slice p n cap) S) (hn : n = S.length) (hv : PtsA w v l) (hc : checkS S = 0) :
    Calls Tryz.prog 3 #[.slice p n cap, .int .i64 room, v] w fun e w' => e = .returned (.bool true) ∧ Below w.heap.size w w' := by
  have HC := hid hc
  have HS := hid hs
  have hn8 : n ≤ 8 := by rw [hn]; exact (check_parts0 hc).1.2
  have hcap : n ≤ cap := by obtain ⟨hs', ⟨p', cap', hv, hc', _⟩, hh⟩ := hs; cases hv; exact hc'.1
  have HN := hid hn
  obtain ⟨pl, capl, rfl, hcapl, hmax, hrg, hx⟩ := hv
  have HRg := hid hrg
  have HX := hid hx
  unfold maxLen at hmax
  clear hrg hx hs hc hn
  generalize hnl : l.length = nl at *
  have HNl := hid hnl
  clear hnl
  go_enter Tryz.func3, Tryz.ntmps3
  go_wp2_with (first
    | (go_at_call 7; refine shown_is.mono ?_; rintro e w1 ⟨rfl, hb1⟩; have HB1 := hid hb1; clear hb1)
    | (go_at_call 8; refine (lnew_ok (P := any) (room := room) (HS.out.on HB1.out) HC.out).mono ?_; rintro e w3 ⟨B3, b0, x0, rfl, hl3, hB3, hB3', hb3⟩; have HL3 := hid hl3; have HB3 := hid (HB1.out.trans (hb3.mono HB1.out.size)); have HBB : Hid (w.heap.size ≤ B3) := Nat.le_trans HB1.out.size hB3; clear hb3 hl3 hB3 hB3')
    | (go_at_call 9; refine (rfnew_ok (P := any) (room := room) (HS.out.on HB3.out) HC.out).mono ?_; rintro e w4 ⟨yb, rfl, hy4, hb4⟩; have HQ0 : Hid (Pq any w w4 b0 S room x0 [] yb (.slice p n cap) (.slice none 0 0) []) := ⟨⟨B3, HBB.out, HL3.out.on hb4⟩, ⟨_, HB3.out.size, hy4⟩, HB3.out.trans (hb4.mono HB3.out.size)⟩; clear hb4 hy4 HL3 HBB HB3))
  go_loopw [8, 12] (fun fv i wr => ∃ (k b : Nat) (x : Lx) (vy : Value) (pts : List Pt), k ≤ nl ∧ k ≤ 100 ∧ fv = dp b ∧ i = .int .i64 k ∧ Hid (pts.length ≤ k) ∧ Hid (Pq any w wr b S room x pts yb (.slice p n cap) vy pts) ∧ Hid (∀ q ∈ pts, fitsS S q = 0)) (fun _ i _ => 100 - (intOf i).toNat)
  case atStart => exact ⟨0, b0, x0, _, [], by omega, by omega, rfl, rfl, Nat.le_refl _, HQ0.out, fun q hq => by cases hq⟩
  case round =>
    clear HQ0 HB1
    obtain ⟨k, b, x, vy, pts, hk, hk2, rfl, rfl, HPk, HQ, HFt⟩ := hrel
    by_cases hlt : k < nl ∧ k < 100
    · obtain ⟨hlt1, hlt2⟩ := hlt
      have hk' : k < l.length := by rw [HNl.out]; exact hlt1
      obtain ⟨q, hq⟩ : ∃ q, l[k]? = some q := ⟨l[k], List.getElem?_eq_getElem hk'⟩
      obtain ⟨q0, hq0⟩ : ∃ q, l[0]? = some q := ⟨l[0], List.getElem?_eq_getElem (by omega)⟩
      obtain ⟨g, o, pk, ck, pv, cv, rfl, hpc⟩ := HX.out k q hq
      obtain ⟨g', o', pk0, ck0, pv0, cv0, hpe, hpc0⟩ := HX.out 0 q0 hq0
      cases hpe
      have HPc := hid hpc
      have HPc0 := hid hpc0
      have HPt : Hid (PtAt w (.agg #[.string q.sc, .slice pk (List.length q.ks) ck, .int .i64 q.tm, .slice pv (List.length q.vs) cv]) q) := hpc.pt
      have HPt0 : Hid (PtAt w (.agg #[.string q0.sc, .slice pk0 (List.length q0.ks) ck0, .int .i64 q0.tm, .slice pv0 (List.length q0.vs) cv0]) q0) := hpc0.pt
      rw [Nat.zero_mul, Nat.add_zero] at HPc0
      have HRq := hid (HRg.out q (List.mem_of_getElem? hq)).1
      have HRq0 := hid (HRg.out q0 (List.mem_of_getElem? hq0)).1
      have hTm := (HRg.out q (List.mem_of_getElem? hq)).2
      obtain ⟨r1, hr1⟩ : ∃ r, wrN S room pts q = r := ⟨_, rfl⟩
      obtain ⟨z1, hz1⟩ : ∃ r, wrE S room pts q = r := ⟨_, rfl⟩
      have HR1 := hid hr1
      have HZ1 := hid hz1
      have HFt' := hid (wrL_fit (room := room) (p := q) HFt.out)
      have HLn : Hid ((wrL S room pts q).length ≤ k + 1) := by show _ ≤ _; rw [wrL_len]; have := HPk.out; split <;> omega
      obtain ⟨W1, hW1⟩ : ∃ W, W = wr := ⟨wr, rfl⟩
      subst hW1
      obtain ⟨c0, c1, c2, c3, hks, hvs⟩ := hpc.on HQ.out.bel
      have HKs := hid hks
      have HVs := hid hvs
      have HTm := hid hTm
      clear hks hvs hpc hpc0 hq hq0 hk' hr1 hz1 hTm
      obtain ⟨nk0, hnk0⟩ : ∃ m, List.length q0.ks = m := ⟨_, rfl⟩
      obtain ⟨nv0, hnv0⟩ : ∃ m, List.length q0.vs = m := ⟨_, rfl⟩
      rw [hnk0, hnv0] at HPt0
      have HNK0 := hid hnk0
      have HNV0 := hid hnv0
      clear hnk0 hnv0
      generalize hnk : List.length q.ks = nk at *
      generalize hnv : List.length q.vs = nv at *
      have HNK := hid hnk
      have HNV := hid hnv
      clear hnk hnv
      go_upto_region 16 with fail
      have KB2 := hid (alloc_block W1 (.cells #[.string q.sc, .slice pk nk ck, .int .i64 q.tm, .slice pv nv cv] 34))
      have HB2 := hid ((Below.refl W1.heap.size W1).alloc (Nat.le_refl _) (.cells #[.string q.sc, .slice pk nk ck, .int .i64 q.tm, .slice pv nv cv] 34))
      have hBX : W1.heap.size < (W1.alloc (.cells #[.string q.sc, .slice pk nk ck, .int .i64 q.tm, .slice pv nv cv] 34)).heap.size := by simp
      clear c0 c1 c2 c3
      generalize hBXe : W1.heap.size = BX at *
      generalize (W1.alloc (.cells #[.string q.sc, .slice pk nk ck, .int .i64 q.tm, .slice pv nv cv] 34)) = W2 at *
      have hba := (Below.refl W2.heap.size W2).alloc (Nat.le_refl _) (.cells #[] 40)
      have HRk2 := hid ((HKs.out.on (by rw [hBXe]; exact HB2.out)).on hba)
      have b1 := block_cell (block_on KB2.out hba) 1
      have HA2 := hid hba
      have HBXe := hid hBXe
      clear hba hBXe
      go_upto_region 17 with (at_builtin; refine app_any elem48 vl_len (fun x _ => vl_cells x) rfl _ _ rfl rfl (Own.made Vl.cells 11 40 W2.heap.size W2 (Nat.le_refl _)) rfl HRk2.out (by simpa using SlAt.bound HRk2.out) (by simp) ?_; intro v1 w3 hown3 hb3; rw [List.nil_append] at hown3; obtain ⟨p1, d1, rfl⟩ := own_formN hown3 HNK.out; have HO3 := hid hown3; have HB3 : Hid (Below W2.heap.size W2 w3) := HA2.out.trans hb3; have KB3 := hid (block_on KB2.out HB3.out); have z1' := block_cell KB3.out 1; have fr := RN.block_frozen KB3.out; clear hown3 hb3)
      have HB4 : Hid (Below BX W1 (w3.setCell ⟨BX, 1, none⟩ (.slice p1 nk d1))) := box_below (HB2.out.trans (HB3.out.mono (Nat.le_of_lt hBX))) (Nat.le_trans (Nat.le_of_lt hBX) HB3.out.size)
      have KB4 : Hid ((w3.setCell ⟨BX, 1, none⟩ (.slice p1 nk d1)).heap[BX]? = some (.cells #[.string q.sc, .slice p1 nk d1, .int .i64 q.tm, .slice pv nv cv] 34)) := by show _ = _; have := RN.set_block (i := 1) KB3.out (.slice p1 nk d1); simpa using this
      have HO4 : Hid (Own Vl.cells 11 40 W2.heap.size (w3.setCell ⟨BX, 1, none⟩ (.slice p1 nk d1)) (.slice p1 nk d1) q.ks) := box_own HO3.out hBX
      have hSz4 : W2.heap.size ≤ (w3.setCell ⟨BX, 1, none⟩ (.slice p1 nk d1)).heap.size := by rw [World.size_setCell]; exact HB3.out.size
      clear z1' fr b1 HB3 HO3 KB3 HB2
      generalize w3.setCell ⟨BX, 1, none⟩ (.slice p1 nk d1) = W4 at *
      have hba := (Below.refl W4.heap.size W4).alloc (Nat.le_refl _) (.cells #[] 40)
      have HRv4 := hid ((HVs.out.on (by rw [HBXe.out]; exact HB4.out)).on hba)
      have b3 := block_cell (block_on KB4.out hba) 3
      have HA4 := hid hba
      have HSz4 := hid hSz4
      have HBX2 := hid hBX
      clear hba hSz4
      go_upto_if 90 with (at_builtin; refine app_any elem48 vl_len (fun x _ => vl_cells x) rfl _ _ rfl rfl (Own.made Vl.cells 11 40 W4.heap.size W4 (Nat.le_refl _)) rfl HRv4.out (by simpa using SlAt.bound HRv4.out) (by simp) ?_; intro v2 w5 hown5 hb5; rw [List.nil_append] at hown5; obtain ⟨p2, d2, rfl⟩ := own_formN hown5 HNV.out; have HO5 := hid hown5; have HB5 : Hid (Below W4.heap.size W4 w5) := HA4.out.trans hb5; have KB5 := hid (block_on KB4.out HB5.out); have z3 := block_cell KB5.out 3; have fr := RN.block_frozen KB5.out; clear hown5 hb5)
      have HB6 : Hid (Below BX W1 (w5.setCell ⟨BX, 3, none⟩ (.slice p2 nv d2))) := box_below (HB4.out.trans (HB5.out.mono (by have := HBX2.out; have := HSz4.out; omega))) (by have := HBX2.out; have := HSz4.out; have := HB5.out.size; omega)
      have KB6 : Hid ((w5.setCell ⟨BX, 3, none⟩ (.slice p2 nv d2)).heap[BX]? = some (.cells #[.string q.sc, .slice p1 nk d1, .int .i64 q.tm, .slice p2 nv d2] 34)) := by show _ = _; have := RN.set_block (i := 3) KB5.out (.slice p2 nv d2); simpa using this
      have HO62 : Hid (Own Vl.cells 11 40 W4.heap.size (w5.setCell ⟨BX, 3, none⟩ (.slice p2 nv d2)) (.slice p2 nv d2) q.vs) := box_own HO5.out (by have := HBX2.out; have := HSz4.out; omega)
      have HO61 : Hid (Own Vl.cells 11 40 W2.heap.size (w5.setCell ⟨BX, 3, none⟩ (.slice p2 nv d2)) (.slice p1 nk d1) q.ks) := box_own (own_kp (T := fun _ => False) HO4.out (Kp.of HB5.out) (fun _ _ => id)) HBX2.out
      have HNe12 : Hid (∀ y, (Value.slice p1 nk d1).ownBlock = some y → ¬ (Value.slice p2 nv d2).ownBlock = some y) := fun y e1 e2 => by have := (own_at HO4.out e1).2; have := (own_at HO62.out e2).1; omega
      clear z3 fr b3 HB5 HO5 KB5 KB4 HO4 HB4 HA2 HA4 HRk2 HRv4
      generalize w5.setCell ⟨BX, 3, none⟩ (.slice p2 nv d2) = W6 at *
      have HBx : Hid (Bx W6 BX BX q.sc q.tm (.slice p1 nk d1) (.slice p2 nv d2) q.ks q.vs) := ⟨KB6.out, own_le HO61.out (Nat.le_of_lt HBX2.out), own_le HO62.out (by have := HBX2.out; have := HSz4.out; omega)⟩
      have hQ6 : Pq (NW BX W6.heap.size) w W6 b S room x pts yb (.slice p n cap) vy pts := (HQ.out.P (P' := NW BX W6.heap.size) (fun y hy _ => .inl (by have := HBXe.out; omega))).on (by rw [HBXe.out]; exact HB6.out)
      have HwBX : Hid (w.heap.size ≤ BX) := by show _ ≤ _; have := HQ.out.bel.size; have := HBXe.out; omega
      have HTyN : Hid (∀ y, Ty yb vy y → y < BX) := fun y e => by have := HQ.out.T_lt.2 y e; have := HBXe.out; omega
      have HNP : Hid (∀ y, (Value.slice p1 nk d1).ownBlock = some y ∨ (Value.slice p2 nv d2).ownBlock = some y → ¬ NW BX W6.heap.size y) := fun y e h => by
        have hy : BX ≤ y ∧ y < W6.heap.size := by rcases e with e | e; · exact own_at HBx.out.o1 e
                                                  · exact own_at HBx.out.o2 e
        rcases h with h | h <;> omega
      have HQ6 := hid hQ6
      clear hQ6 HO61 HO62 KB6 HB6 hBX HSz4 HBX2 HKs HVs
      generalize hN6 : W6.heap.size = N6 at *
      have HN6 : Hid (N6 ≤ W6.heap.size) := by show _ ≤ _; omega
      clear hN6
      go_cut [8, 14] from 90 to 229 (fun fv ov wx => ∃ b' x', fv = dp b' ∧ Hid (Pq (NW BX N6) w wx b' S room x' pts yb (.slice p n cap) vy pts) ∧ Hid (Bx wx BX BX q.sc q.tm (.slice p1 nk d1) (.slice p2 nv d2) q.ks q.vs) ∧ Hid (N6 ≤ wx.heap.size))
      case first =>
        by_cases hk6 : k % 7 = 6
        · have he : ((k : Int) % 7 == 6) = true := by simp; omega
          have M1 : Hid True := trivial
          go_wp2_with (first
            | (go_at_call 10; refine (pq_clone HQ6.out (by have := HPk.out; omega)).mono ?_; rintro e w7 ⟨b', x', rfl, hpo, hb7⟩; have HPo := hid hpo; have HBx7 := hid (HBx.out.on hb7); have HN7 : Hid (N6 ≤ w7.heap.size) := Nat.le_trans HN6.out hb7.size; obtain ⟨c0, c1, c2, c3, -, -⟩ := HPc.out.on hpo.pq.bel; rw [HNK.out] at c1; rw [HNV.out] at c3; clear hpo hb7)
            | (go_at_call 11; clear M1; refine (po_wr HPo.out (HPo.out.arg HPt.out) HC.out (by have := HPk.out; omega) HRq.out (fun y hy => .inr (Nat.le_trans HN7.out hy))).mono ?_; rintro e w8 ⟨r8, z8, rfl, x8, hpo8, hk8⟩; have HPo8 := hid hpo8; have HBx8 := hid (HPo.out.bx HBx7.out hk8); have HN8 : Hid (N6 ≤ w8.heap.size) := Nat.le_trans HN7.out hk8.size; clear c0 c1 c2 c3; obtain ⟨c0, c1, c2, c3, -, -⟩ := HPc0.out.on hpo8.pq.bel; rw [HNK0.out] at c1; rw [HNV0.out] at c3; clear hpo8 hk8)
            | (go_at_call 11; refine (po_wr HPo8.out (HPo8.out.arg HPt0.out) HC.out (by rw [wrL_len]; have := HPk.out; split <;> omega) HRq0.out (fun y hy => .inr (Nat.le_trans HN8.out hy))).mono ?_; rintro e w9 ⟨r9, z9, rfl, x9, hpo9, hk9⟩; have HPo9 := hid hpo9; have HBx9 := hid (HPo8.out.bx HBx8.out hk9); have HN9 : Hid (N6 ≤ w9.heap.size) := Nat.le_trans HN8.out hk9.size; clear c0 c1 c2 c3 hpo9 hk9))
          go_meet
          exact ⟨b', x', rfl, HPo9.out.pq, HBx9.out, HN9.out⟩
        · have he : ((k : Int) % 7 == 6) = false := by simp; omega
          go_wp2
          go_meet
          exact ⟨b, x, rfl, HQ6.out, HBx.out, HN6.out⟩
      case rest =>
        obtain ⟨b7, x7, hu8, HQ7, HBx7, HN7⟩ := hcut
        subst hu8
        clear HQ6 HBx HN6 HQ
        have hb0 := block_cell HBx7.out.blk
        have HLk : Hid (List.length q.ks * bsz 11 ≤ 140737488355328) := SlAt.bound HPc.out.ks
        have HLv : Hid (List.length q.vs * bsz 11 ≤ 140737488355328) := SlAt.bound HPc.out.vs
        go_wp2_with (first
          | (go_at_call 11; refine (pq_wrF HQ7.out (HQ7.out.pt (HBx7.out.pt HNK.out HNV.out HLk.out HLv.out)) HC.out (by have := HPk.out; omega) HRq.out (fun y hy => .inr (Nat.le_trans HN7.out hy)) HR1.out HZ1.out rfl).mono ?_; rintro e w8 ⟨rfl, x8, hq8, hk8⟩; have HQ8 := hid hq8; have HBx8 := hid (HQ7.out.bxF HBx7.out hk8); have HN8 : Hid (N6 ≤ w8.heap.size) := Nat.le_trans HN7.out hk8.size; obtain ⟨c0, c1, c2, c3, -, -⟩ := HPc.out.on hq8.bel; rw [HNK.out] at c1; rw [HNV.out] at c3; clear hq8 hk8 hb0)
          | (go_at_call 12; refine (pq_wrY HQ8.out (HS.out.on HQ8.out.bel) (HPt.out.on HQ8.out.bel) (by have := HPk.out; omega) (fun y hy => .inr (Nat.le_trans HN8.out hy)) HR1.out HZ1.out rfl).mono ?_; rintro e w9 ⟨rfl, v9, hq9, hk9⟩; have HQ9 := hid hq9; have HBx9 := hid (HQ8.out.bxY HBx8.out HTyN.out hk9); clear hq9 hk9 c0 c1 c2 c3))
        clear HQ7 HQ8 HBx7 HBx8 HN7 HN8
        have HOb := hid (own_blk HBx9.out.o1 HNK.out)
        have hnkB : nk ≤ 140737488355328 := by have := HLk.out; rw [HNK.out] at this; unfold bsz at this; simp at this; omega
        have hnvB : nv ≤ 140737488355328 := by have := HLv.out; rw [HNV.out] at this; unfold bsz at this; simp at this; omega
        go_loopw [19] (fun m wx => ∃ j : Nat, j ≤ nk ∧ m = .int .i64 j ∧ Hid (OwB wx p1 nk) ∧ Hid (Kp (fun y => (Value.slice p1 nk d1).ownBlock = some y) w9 wx)) (fun m _ => nk - (intOf m).toNat)
        case atStart => exact ⟨0, by omega, rfl, HOb.out, Kp.refl _ _⟩
        case round =>
          obtain ⟨j, hj, rfl, HOj, HKj⟩ := hrel
          obtain ⟨w10, hw10⟩ : ∃ W, W = wr := ⟨wr, rfl⟩
          subst hw10
          have HK10 := hid (HKj.out.blk HBx9.out.blk HBx9.out.ne1)
          have b10 := block_cell HK10.out
          by_cases hjl : j < nk
          · obtain ⟨g7, arr, hpo, hb7, hsz7⟩ := HOj.out (by omega)
            subst hpo
            have hfz := RN.block_frozen hb7
            obtain ⟨a0, a1, a2, a3, a4, a5, a6, a7, a8, a9, a10, z0, z1', z2, z3, z4, z5, z6, z7, z8, z9, z10⟩ := cells11 hb7 (show j * 11 + 11 ≤ arr.size by omega)
            go_wp2
            go_roundw
            case rel =>
              refine ⟨j + 1, by omega, by go_num, fun _ => ⟨g7, _, rfl, RN.set_block (RN.set_block (RN.set_block (RN.set_block (RN.set_block (RN.set_block (RN.set_block (RN.set_block (RN.set_block (RN.set_block (RN.set_block hb7 _) _) _) _) _) _) _) _) _) _) _, by simp; omega⟩, ?_⟩
              iterate 11 (refine Kp.trans ?_ (Kp.set (T := fun y => (Value.slice (some ⟨g7, 0, none⟩) nk d1).ownBlock = some y) rfl _))
              exact HKj.out
            case measure => simp [intOf]; omega
          · have hjn : j = nk := by omega
            subst hjn
            have HQ10 := hid (HQ9.out.own HBx9.out.o1 HwBX.out (fun y e => HNP.out y (.inl e)) HKj.out)
            have HO2 := hid (own_kp HBx9.out.o2 HKj.out (fun y e2 e1 => HNe12.out y e1 e2))
            have HOb2 := hid (own_blk HO2.out HNV.out)
            have HNe2 := hid HBx9.out.ne2
            clear HQ9 HBx9 HKj HOj HOb
            go_wp2
            go_loopw [20] (fun m wx => ∃ i : Nat, i ≤ nv ∧ m = .int .i64 i ∧ Hid (OwB wx p2 nv) ∧ Hid (Kp (fun y => (Value.slice p2 nv d2).ownBlock = some y) w10 wx)) (fun m _ => nv - (intOf m).toNat)
            case atStart => exact ⟨0, by omega, rfl, HOb2.out, Kp.refl _ _⟩
            case round =>
              clear b10
              obtain ⟨i, hi, rfl, HOi, HKi⟩ := hrel
              obtain ⟨w11, hw11⟩ : ∃ W, W = wr := ⟨wr, rfl⟩
              subst hw11
              have b11 := block_cell (HKi.out.blk HK10.out HNe2.out)
              by_cases hil : i < nv
              · obtain ⟨g8, arr, hpo, hb8, hsz8⟩ := HOi.out (by omega)
                subst hpo
                have hfz := RN.block_frozen hb8
                obtain ⟨a0, a1, a2, a3, a4, a5, a6, a7, a8, a9, a10, z0, z1', z2, z3, z4, z5, z6, z7, z8, z9, z10⟩ := cells11 hb8 (show i * 11 + 11 ≤ arr.size by omega)
                go_wp2
                go_roundw
                case rel =>
                  refine ⟨i + 1, by omega, by go_num, fun _ => ⟨g8, _, rfl, RN.set_block (RN.set_block (RN.set_block (RN.set_block (RN.set_block (RN.set_block (RN.set_block (RN.set_block (RN.set_block (RN.set_block (RN.set_block hb8 _) _) _) _) _) _) _) _) _) _) _, by simp; omega⟩, ?_⟩
                  iterate 11 (refine Kp.trans ?_ (Kp.set (T := fun y => (Value.slice (some ⟨g8, 0, none⟩) nv d2).ownBlock = some y) rfl _))
                  exact HKi.out
                case measure => simp [intOf]; omega
              · have hin : i = nv := by omega
                subst hin
                have HQ11 := hid ((HQ10.out.own HO2.out HwBX.out (fun y e => HNP.out y (.inr e)) HKi.out).P (P' := any) (fun _ _ _ => trivial))
                clear HQ10 HO2 HOb2 HNe2 HK10 HOi HKi HNP HNe12 HTyN
                obtain ⟨c0, c1, c2, c3, -, -⟩ := HPc.out.on HQ11.out.bel
                clear c1 c3
                go_upto_region 35 with fail
                clear b11
                go_cut [21] from 146 to 229 (fun fv wx => ∃ (fr : Int) (nq : Nat), fv = .int .i64 fr ∧ wx = w11.drewN nq)
                case first =>
                  go_quiet (fail)
                  go_wp2_with fail
                  go_meet
                  exact ⟨_, _, rfl, rfl⟩
                case rest =>
                  obtain ⟨fr, nq, hu21, hwc⟩ := hcut
                  subst hu21
                  subst hwc
                  have HQ12 := hid (HQ11.out.on (below_drewN (Below.refl _ w11) nq))
                  have c0' : (w11.drewN nq).cell? ⟨g, o + k * 4, none⟩ = some (.string q.sc) := c0
                  have c2' : (w11.drewN nq).cell? ⟨g, o + k * 4 + 2, none⟩ = some (.int .i64 q.tm) := c2
                  clear c0 c2 HQ11
                  generalize w11.drewN nq = W12 at *
                  obtain ⟨rs, hrs⟩ : ∃ r, scR S (wrL S room pts q) q.sc fr q.tm = r := ⟨_, rfl⟩
                  obtain ⟨cs, hcs⟩ : ∃ c, scC S q.sc = c := ⟨_, rfl⟩
                  obtain ⟨er, her⟩ : ∃ c, scE S q.sc = c := ⟨_, rfl⟩
                  obtain ⟨m, hm⟩ : ∃ c, rs.length = c := ⟨_, rfl⟩
                  have HRs := hid hrs
                  have HCs := hid hcs
                  have HEr := hid her
                  have HM := hid hm
                  have HSz := hid (fit_sz HC.out HFt'.out)
                  clear hrs hcs her hm
                  generalize hpn : wrL S room pts q = ptn at *
                  have HPn := hid hpn
                  clear hpn
                  go_upto_region 36 with fail
                  go_cut [22, 23] from 158 to 229 (fun tv ov wx => ∃ (T : Nat) (pc : Option Addr) (nc cc : Nat) (pr : Option Addr) (cr : Nat), tv = dp T ∧ ov = .int .i64 er ∧ Hid (wx.heap[T]? = some (.cells #[.slice pc nc cc, .slice pr m cr] 44)) ∧ Hid (TabY (fun y => W12.heap.size ≤ y) wx (.agg #[.slice pc nc cc, .slice pr m cr]) cs rs) ∧ Hid (Below W12.heap.size W12 wx))
                  case first =>
                    have hgl : g < W12.heap.size := block_lt_of_cell c0'
                    have hSG : SG g (o + k * 4) (.string q.sc) (.int .i64 q.tm) W12 := ⟨c0', c2'⟩
                    have HSG := hid hSG
                    have HbA : Hid (Below W12.heap.size W12 (W12.drew.alloc (.cells #[.slice none 0 0, .slice none 0 0] 44))) := (Below.refl _ _).drew.alloc (Nat.le_refl _) _
                    have HkA : Hid ((W12.drew.alloc (.cells #[.slice none 0 0, .slice none 0 0] 44)).heap[W12.heap.size]? = some (.cells #[.slice none 0 0, .slice none 0 0] 44)) := alloc_block W12.drew _
                    clear c0' c2'
                    go_region_held3 (SG g (o + k * 4) (.string q.sc) (.int .i64 q.tm)) (((repeat (first | (with_reducible refine sgD ?_) | (with_reducible refine sgA ?_ _) | (with_reducible refine sgW ?_ (by assumption)))); (with_reducible assumption)))
                      (first
                      | (refine step_call4 (v := dp b7) (v2 := .string q.sc) (v3 := .int .i64 fr) (v4 := .int .i64 q.tm) rfl (.tmp 159) (.tmp 164) (.tmp 165) (.tmp 170) 25 9 3 3 rfl (by simp [Act.eval]) (by simp [Act.eval]) (by simp [Act.eval]) (by simp [Act.eval]) enters13 ?_; refine (pq_scanF (nm := q.sc) (a := fr) (z := q.tm) (HQ12.out.on HbA.out) HC.out (by have := HLn.out; omega) HSz.out HEr.out HCs.out HRs.out HM.out).mono ?_; rintro e w13 ⟨pc, nc, cc, pr, cr, rfl, ht, hb⟩; refine ⟨_, rfl, ?_⟩; have HA := hid (block_on HkA.out hb); have tA := block_cell HA.out; have fA := frozen_no HA.out; have HT := hid ht; have HB13 := hid (HbA.out.trans (hb.mono HbA.out.size)); have hS13 := sgOn HSG.out HB13.out; have hg13 : g < w13.heap.size := block_lt_of_cell hS13.1; clear ht hb hSG)
                      | (refine step_call4 (v := dp b7) (v2 := .string q.sc) (v3 := .int .i64 fr) (v4 := .int .i64 q.tm) rfl (.tmp 159) (.tmp 164) (.tmp 165) (.tmp 170) 25 9 3 3 rfl (by simp [Act.eval]) (by simp [Act.eval]) (by simp [Act.eval]) (by simp [Act.eval]) enters13 ?_; refine (pq_scanF (nm := q.sc) (a := fr) (z := q.tm) (HQ12.out.on (Below.refl _ _).drew) HC.out (by have := HLn.out; omega) HSz.out HEr.out HCs.out HRs.out HM.out).mono ?_; rintro e w13 ⟨pc, nc, cc, pr, cr, rfl, ht, hb⟩; refine ⟨_, rfl, ?_⟩; have HT := hid ht; have HB13 := hid ((Below.refl W12.heap.size W12).drew.trans hb); have hS13 := sgOn HSG.out HB13.out; have hg13 : g < w13.heap.size := block_lt_of_cell hS13.1; clear ht hb hSG))
                    · go_wp2_with fail
                      go_meet
                      exact ⟨_, pc, nc, cc, pr, cr, rfl, rfl, alloc_block w13 _, HT.out.on ((Below.refl _ _).alloc (Nat.le_refl _) _), HB13.out.alloc HB13.out.size _⟩
                    · go_wp2_with fail
                      go_meet
                      have hfin := t44_first (x := .slice pc nc cc) (y := .slice pr m cr) HA.out (Nat.le_refl _) HB13.out
                      exact ⟨_, pc, nc, cc, pr, cr, rfl, rfl, hfin.1, (((HT.out.set (i := 0) (u := .slice pc nc cc) (R := W12.heap.size) (fun y hy => by have h2 : (W12.drew.alloc (.cells #[.slice none 0 0, .slice none 0 0] 44)).heap.size ≤ y := hy; rw [World.size_alloc] at h2; have h3 : W12.drew.heap.size = W12.heap.size := rfl; omega)).set (i := 1) (u := .slice pr m cr) (R := W12.heap.size) (fun y hy => by have h2 : (W12.drew.alloc (.cells #[.slice none 0 0, .slice none 0 0] 44)).heap.size ≤ y := hy; rw [World.size_alloc] at h2; have h3 : W12.drew.heap.size = W12.heap.size := rfl; omega)).imp fun y hy => Nat.le_trans HbA.out.size hy), hfin.2⟩
                  case rest =>
                    obtain ⟨T, pc, nc, cc, pr, cr, hu22, hu23, KT, HT, HBT⟩ := hcut
                    subst hu22
                    subst hu23
                    obtain ⟨W13, hW13⟩ : ∃ W, W = wc := ⟨wc, rfl⟩
                    subst hW13
                    have HQ13 := hid (HQ12.out.on HBT.out)
                    have hgl : g < W13.heap.size := Nat.lt_of_lt_of_le (show g < W12.heap.size from block_lt_of_cell c0') HBT.out.size
                    have hSG : SG g (o + k * 4) (.string q.sc) (.int .i64 q.tm) W13 := sgOn ⟨c0', c2'⟩ HBT.out
                    have HSG := hid hSG
                    have HbA : Hid (Below W13.heap.size W13 (W13.drew.alloc (.cells #[.slice none 0 0, .slice none 0 0] 44))) := (Below.refl _ _).drew.alloc (Nat.le_refl _) _
                    have HkA : Hid ((W13.drew.alloc (.cells #[.slice none 0 0, .slice none 0 0] 44)).heap[W13.heap.size]? = some (.cells #[.slice none 0 0, .slice none 0 0] 44)) := alloc_block W13.drew _
                    clear c0' c2'
                    go_upto_region 37 with fail
                    go_cut [24, 25] from 174 to 229 (fun tv ov wx => ∃ (U : Nat) (pc : Option Addr) (nc cc : Nat) (pr : Option Addr) (nr cr : Nat), tv = dp U ∧ ov = .int .i64 er ∧ Hid (wx.heap[U]? = some (.cells #[.slice pc nc cc, .slice pr nr cr] 44)) ∧ Hid (TabAt wx (.agg #[.slice pc nc cc, .slice pr nr cr]) cs rs) ∧ Hid (Below W13.heap.size W13 wx))
                    case first =>
                      go_region_held3 (SG g (o + k * 4) (.string q.sc) (.int .i64 q.tm)) (((repeat (first | (with_reducible refine sgD ?_) | (with_reducible refine sgA ?_ _) | (with_reducible refine sgW ?_ (by assumption)))); (with_reducible assumption)))
                        (first
                        | (refine step_call4 (v := dp yb) (v2 := .string q.sc) (v3 := .int .i64 fr) (v4 := .int .i64 q.tm) rfl (.tmp 175) (.tmp 180) (.tmp 181) (.tmp 186) 29 9 3 3 rfl (by simp [Act.eval]) (by simp [Act.eval]) (by simp [Act.eval]) (by simp [Act.eval]) enters14 ?_; refine (pq_scanY (nm := q.sc) (a := fr) (z := q.tm) (HQ13.out.on HbA.out) (HS.out.on (HQ13.out.on HbA.out).bel) HC.out (by have := HLn.out; omega) HSz.out HEr.out HCs.out HRs.out).mono ?_; rintro e w14 ⟨pc2, nc2, cc2, pr2, nr2, cr2, rfl, ht, hb⟩; refine ⟨_, rfl, ?_⟩; have HA := hid (block_on HkA.out hb); have tA := block_cell HA.out; have fA := frozen_no HA.out; have HT2 := hid ht; have HB14 := hid (HbA.out.trans (hb.mono HbA.out.size)); have hS14 := sgOn HSG.out HB14.out; have hg14 : g < w14.heap.size := block_lt_of_cell hS14.1; clear ht hb hSG)
                        | (refine step_call4 (v := dp yb) (v2 := .string q.sc) (v3 := .int .i64 fr) (v4 := .int .i64 q.tm) rfl (.tmp 175) (.tmp 180) (.tmp 181) (.tmp 186) 29 9 3 3 rfl (by simp [Act.eval]) (by simp [Act.eval]) (by simp [Act.eval]) (by simp [Act.eval]) enters14 ?_; refine (pq_scanY (nm := q.sc) (a := fr) (z := q.tm) (HQ13.out.on (Below.refl _ _).drew) (HS.out.on (HQ13.out.on (Below.refl _ _).drew).bel) HC.out (by have := HLn.out; omega) HSz.out HEr.out HCs.out HRs.out).mono ?_; rintro e w14 ⟨pc2, nc2, cc2, pr2, nr2, cr2, rfl, ht, hb⟩; refine ⟨_, rfl, ?_⟩; have HT2 := hid ht; have HB14 := hid ((Below.refl W13.heap.size W13).drew.trans hb); have hS14 := sgOn HSG.out HB14.out; have hg14 : g < w14.heap.size := block_lt_of_cell hS14.1; clear ht hb hSG))
                      · go_wp2_with fail
                        go_meet
                        exact ⟨_, pc2, nc2, cc2, pr2, nr2, cr2, rfl, rfl, alloc_block w14 _, HT2.out.at.on ((Below.refl _ _).alloc (Nat.le_refl _) _), HB14.out.alloc HB14.out.size _⟩
                      · go_wp2_with fail
                        go_meet
                        have hfin := t44_first (x := .slice pc2 nc2 cc2) (y := .slice pr2 nr2 cr2) HA.out (Nat.le_refl _) HB14.out
                        exact ⟨_, pc2, nc2, cc2, pr2, nr2, cr2, rfl, rfl, hfin.1, (tab_set (tab_set HT2.out (z := W13.heap.size) (i := 0) (u := .slice pc2 nc2 cc2) (fun y hy => by have h2 : (W13.drew.alloc (.cells #[.slice none 0 0, .slice none 0 0] 44)).heap.size ≤ y := hy; rw [World.size_alloc] at h2; have h3 : W13.drew.heap.size = W13.heap.size := rfl; omega)) (z := W13.heap.size) (i := 1) (u := .slice pr2 nr2 cr2) (fun y hy => by have h2 : (W13.drew.alloc (.cells #[.slice none 0 0, .slice none 0 0] 44)).heap.size ≤ y := hy; rw [World.size_alloc] at h2; have h3 : W13.drew.heap.size = W13.heap.size := rfl; omega)).at, hfin.2⟩
                    case rest =>
                      obtain ⟨U, pc2, nc2, cc2, pr2, nr2, cr2, hu24, hu25, KU, HU, HBU⟩ := hcut
                      subst hu24
                      subst hu25
                      obtain ⟨W14, hW14⟩ : ∃ W, W = wc := ⟨wc, rfl⟩
                      subst hW14
                      have HT14 := hid (HT.out.on HBU.out)
                      have KT14 := hid (block_on KT.out HBU.out)
                      have HB14 := hid (HBT.out.trans (HBU.out.mono HBT.out.size))
                      have k22 := block_cell KT14.out
                      have k24 := block_cell KU.out
                      clear HT KT HSG HbA HkA hSG hgl HQ13 HBT HBU
                      go_upto_region 39 with (go_at_call 15; refine (same_is HT14.out.tab.at HU.out (decide_eq_true ⟨rfl, rfl⟩)).mono ?_; rintro e w15 ⟨rfl, hb15⟩; have HT15 := hid (HT14.out.on hb15); have KT15 := hid (block_on KT14.out hb15); have HB15 := hid (HB14.out.trans (hb15.mono HB14.out.size)); clear hb15 k22 k24)
                      clear HT14 KT14 HB14 HU KU
                      obtain ⟨pn, hpn⟩ : ∃ c, ptn.length = c := ⟨_, rfl⟩
                      have HPl := hid hpn
                      have hpn101 : pn ≤ 101 := by have := HLn.out; omega
                      have HQ15 := hid (HQ12.out.on HB15.out)
                      obtain ⟨py, cy, hyb⟩ := pq_y HQ15.out hpn (by omega)
                      have HYB := hid hyb
                      clear hpn hyb
                      have ky : ∀ d os i, (grow (redrawn w15 d) os).cell? ⟨yb, i, none⟩ = (#[.slice p n cap, .int .i64 room, .slice py pn cy] : Array Value)[i]? := fun d os i => block_cell (block_on HYB.out (below_regrown w15 d os)) i
                      have HPg : ∀ d os, Hid (Pq any w (grow (redrawn w15 d) os) b7 S room x8 ptn yb (.slice p n cap) v9 ptn) := fun d os => HQ15.out.on (below_regrown w15 d os)
                      refine wp_region_quiet_below (by kernel_rfl) (by kernel_rfl) ?_
                      repeat (go_big_quiet_step (first | (go_at_call 16; exact Calls.regrown_of (pq_points (HPg _ _).out HPl.out))))
                      refine wpQuiet_nil ?_
                      intro _ hw'
                      obtain ⟨⟨dr, osr⟩, hw''⟩ := hw'
                      subst hw''
                      have HB16 := hid (HB15.out.trans ((below_regrown w15 dr osr).mono HB15.out.size))
                      have HT16 := hid (HT15.out.on (below_regrown w15 dr osr))
                      have KT16 := hid (block_on KT15.out (below_regrown w15 dr osr))
                      clear ky HPg HB15 HT15 KT15 HYB
                      generalize grow (redrawn w15 dr) osr = W16 at *
                      have k16 := block_cell KT16.out
                      by_cases hm0 : m = 0
                      · subst hm0
                        go_wp2
                        go_roundw
                        case rel => exact ⟨k + 1, b7, x8, v9, ptn, by omega, by omega, rfl, by go_num, HLn.out, HQ12.out.on HB16.out, HFt'.out⟩
                        case measure => simp [intOf]; omega
                      · have hmp : 0 < m := by omega
                        have hmd : decide ((0 : Int) < (m : Int)) = true := by simp; omega
                        have HRne : Hid (∀ r ∈ rs, r ≠ []) := by show ∀ r ∈ rs, r ≠ []; rw [← HRs.out]; exact scR_ne
                        have hmb : m ≤ 101 := by have h1 := HM.out; have h2 := HLn.out; have h3 := scR_len (S := S) (pts := ptn) (nm := q.sc) (a := fr) (z := q.tm); rw [HRs.out] at h3; omega
                        obtain ⟨gr, i', g9, o9, n9, c9, arr, rfl, hcr, hn9, hn9b, hge, hb9, hsz9⟩ := tabY_first HT16.out HM.out hmp HRne.out
                        have hfz := RN.block_frozen hb9
                        obtain ⟨a0, a1, a2, a3, a4, a5, a6, a7, a8, a9, a10, z0, z1', z2, z3, z4, z5, z6, z7, z8, z9, z10⟩ := cells11 hb9 hsz9
                        go_wp2
                        go_roundw
                        case rel =>
                          refine ⟨k + 1, b7, x8, v9, ptn, by omega, by omega, rfl, by go_num, HLn.out, HQ12.out.on ?_, HFt'.out⟩
                          iterate 11 (refine Below.setCell ?_ hge _)
                          exact HB16.out
                        case measure => simp [intOf]; omega
    · as_aux_lemma =>
      obtain ⟨W1, hW1⟩ : ∃ W, W = wr := ⟨wr, rfl⟩
      subst hW1
      have hpl : pts.length ≤ 100 := Nat.le_trans HPk.out hk2
      have HPl := hid hpl
      go_upto_region 13 with fail
      go_cut [71] from 64 to 229 (fun cv wx => cv = .bool false ∧ wx = W1)
      case first =>
        rcases (show ¬ k < nl ∨ (k < nl ∧ ¬ k < 100) by omega) with h1 | ⟨h1, h2⟩
        · go_wp2
          go_meet
          exact ⟨rfl, rfl⟩
        · go_wp2
          go_meet
          exact ⟨by simp; omega, rfl⟩
      case rest =>
        obtain ⟨hu71, hwc⟩ := hcut
        subst hu71
        replace hwc := hwc.symm
        subst hwc
        clear hpl
        have HSz := hid (fit_sz HC.out HFt.out)
        go_wp2
        have hQ1 := HQ.out
        clear hlt
        go_loopw [27] (fun i wr => ∃ (j : Nat), j ≤ n ∧ i = .int .i64 j ∧ Hid (Pq any w wr b S room x pts yb (.slice p n cap) vy pts)) (fun i _ => n - (intOf i).toNat)
        case atStart => exact ⟨0, by omega, rfl, hQ1⟩
        case round =>
          clear hQ1
          obtain ⟨j, hj, rfl, HQj⟩ := hrel
          obtain ⟨W2, hW2⟩ : ∃ W, W = wr := ⟨wr, rfl⟩
          subst hW2
          by_cases hjl : j < n
          · have hj' : j < S.length := by rw [← HN.out]; exact hjl
            obtain ⟨s, hs⟩ : ∃ s, S[j]? = some s := ⟨S[j], List.getElem?_eq_getElem hj'⟩
            obtain ⟨g, o, rfl, hcell⟩ := sch_name HS.out hs
            have HCell : Hid (∀ W, Below w.heap.size w W → W.cell? ⟨g, o + j * 3, none⟩ = some (.string s.nm)) := fun W hW => SN.cell_onB hcell hW
            obtain ⟨rs, hrs⟩ : ∃ r, scR S pts s.nm (-9223372036854775808) 9223372036854775807 = r := ⟨_, rfl⟩
            obtain ⟨cs, hcs⟩ : ∃ c, scC S s.nm = c := ⟨_, rfl⟩
            obtain ⟨er, her⟩ : ∃ c, scE S s.nm = c := ⟨_, rfl⟩
            obtain ⟨m, hm⟩ : ∃ c, rs.length = c := ⟨_, rfl⟩
            have HRs := hid hrs
            have HCs := hid hcs
            have HEr := hid her
            have HM := hid hm
            clear hrs hcs her hm hs hj' hcell
            have q0 := HCell.out _ HQj.out.bel
            go_upto_region 47 with (go_at_call 13; refine (pq_scanF (nm := s.nm) (a := -9223372036854775808) (z := 9223372036854775807) HQj.out HC.out (by have := HPl.out; omega) HSz.out HEr.out HCs.out HRs.out HM.out).mono ?_; rintro e w4 ⟨pc4, nc4, cc4, pr4, cr4, rfl, ht4, hb4⟩; have HT4 := hid ht4.tab.at; have HB4 := hid hb4; clear ht4 hb4 q0)
            have hb5 := HB4.out.alloc HB4.out.size (.cells #[.slice pc4 nc4 cc4, .slice pr4 m cr4] 44)
            have K4 := hid (alloc_block w4 (.cells #[.slice pc4 nc4 cc4, .slice pr4 m cr4] 44))
            have HT5 := hid (HT4.out.on ((Below.refl _ _).alloc (Nat.le_refl _) (.cells #[.slice pc4 nc4 cc4, .slice pr4 m cr4] 44)))
            have HQ5 := hid (HQj.out.on hb5)
            clear hb5 HT4 HB4 HQj
            generalize w4.heap.size = B4 at *
            generalize (w4.alloc (.cells #[.slice pc4 nc4 cc4, .slice pr4 m cr4] 44)) = W5 at *
            have q0 := HCell.out _ HQ5.out.bel
            go_upto_region 48 with (go_at_call 14; refine (pq_scanY (nm := s.nm) (a := -9223372036854775808) (z := 9223372036854775807) HQ5.out (HS.out.on HQ5.out.bel) HC.out (by have := HPl.out; omega) HSz.out HEr.out HCs.out HRs.out).mono ?_; rintro e w6 ⟨pc6, nc6, cc6, pr6, nr6, cr6, rfl, ht6, hb6⟩; have HT6 := hid ht6.at; have HB6 := hid hb6; clear ht6 hb6 q0)
            have hb7 := HB6.out.alloc HB6.out.size (.cells #[.slice pc6 nc6 cc6, .slice pr6 nr6 cr6] 44)
            have K6 := hid (alloc_block w6 (.cells #[.slice pc6 nc6 cc6, .slice pr6 nr6 cr6] 44))
            have HT7 := hid (HT6.out.on ((Below.refl _ _).alloc (Nat.le_refl _) (.cells #[.slice pc6 nc6 cc6, .slice pr6 nr6 cr6] 44)))
            have K47 := hid (block_on K4.out hb7)
            have HT57 := hid (HT5.out.on hb7)
            have HQ7 := hid (HQ5.out.on hb7)
            clear hb7 HT6 HB6 HT5 K4 HQ5
            generalize w6.heap.size = B6 at *
            generalize (w6.alloc (.cells #[.slice pc6 nc6 cc6, .slice pr6 nr6 cr6] 44)) = W7 at *
            have k4 := block_cell K47.out
            have k6 := block_cell K6.out
            go_wp2_with (go_at_call 15; refine (same_is HT57.out HT7.out (decide_eq_true ⟨rfl, rfl⟩)).mono ?_; rintro e w8 ⟨rfl, hb8⟩; have HQ8 := hid (HQ7.out.on hb8); clear hb8 k4 k6)
            go_roundw
            case rel => exact ⟨j + 1, by omega, by go_num, HQ8.out⟩
            case measure => simp [intOf]; omega
          · have hjn : j = n := by omega
            subst hjn
            have hbe := HQj.out.bel
            go_wp2
            go_ret
            exact ⟨rfl, hbe⟩
theorem plays_any {w : World} {u v : Value} {S : List Sc} {l : List Pt} {room : Int} (hs : SchsAt w u S) (hv : PtsA w v l) :
    Calls Tryz.prog 3 #[u, .int .i64 room, v] w fun e w' => e = .returned (.bool true) ∧ Below w.heap.size w w' := by
  have hs' := hs
  obtain ⟨hs0, ⟨p, cap, rfl, -⟩, hh⟩ := hs
  rcases check_two S with hc | hc
  · exact plays_ok hs' hh.1 hv hc
  · refine plays_bad hs' hh.1 ?_
    by_cases h10 : S.length ≤ 10
    · rw [List.take_of_length_le h10]; exact hc
    · exact check_long (by rw [List.length_take]; omega)
end Go.Proofs.YtlbjbkhcnafhcaaGreat
