/-
  The reference's step: join, union.
  The reference's reader: any step, any query, at any depth.
  The reference's reader: what is answered at the end.
  The reference's Parse and Cond.
-/
import Derived.Test.YtmpjmimhoikknaaGreatDoorK35
namespace Go.Proofs.YtmpjmimhoikknaaGreatDoor
open Go.RowKit Go.Joins

section
variable {B : Nat} {ts : List Tp} {w w' : World} {rb : Nat} {tv sv : Value} {E : Int} {o i : Nat} {qs : List Nd}
theorem br_fin {c : PN} {d : Option PN} {p : PN} {k : Nat} {kd : Int} {rows j5 j6 j7 j9 : Nat} {ns ns9 : List Np} {qs6 : List Nd} {z6 z9 E5 E6 E7 E9 : Int} (hk : (k = 5 ∧ kd = 7) ∨ (k = 6 ∧ kd = 8)) (hn : ∀ m, m < k → isW ts i (stepW.getD m []) = false) (hy : isW ts i (stepW.getD k []) = true) (hin : inBr ts d (i + 1) ns = if E5 = 0 then (p j5 ns).and fun r j => (wantS ts wShut j).and fun _ j => .ok r j else .bad j5 E5) (h6 : Cm2 (lf E5 j5 (p j5 ns)) z6 (qs6.map (·.np)) j6 E6) (h7 : Cm (lf E6 j6 (wantS ts wShut j6)) () j7 E7) (h9 : Cm2 (lf E7 j7 (.ok (qs6.length, qs6.map (·.np) ++ [{ n0 with kind := kd, l := [(rows : Int), z6] }]) j7)) z9 ns9 j9 E9) : Cm2 ((stepB ts c d rows i ns).and stepK) z9 ns9 j9 E9 := by
  have e : (stepB ts c d rows i ns).and stepK = (inBr ts d (i + 1) ns).and fun r j => .ok (r.2.length, r.2 ++ [{ n0 with kind := kd, l := [(rows : Int), (r.1 : Int)] }]) j := by
    unfold stepB
    rcases hk with ⟨rfl, rfl⟩ | ⟨rfl, rfl⟩
    · rw [step_k (by decide) hn hy]
      show ((inBr ts d (i + 1) ns).and _).and stepK = _
      rw [and_assoc']; rfl
    · rw [step_k (by decide) hn hy]
      show ((inBr ts d (i + 1) ns).and _).and stepK = _
      rw [and_assoc']; rfl
  rw [e, hin]
  by_cases h5 : E5 = 0
  · subst h5
    rw [if_pos rfl]
    unfold lf at h6; rw [if_pos rfl] at h6
    rcases h6 with ⟨h6, hE⟩ | ⟨b, rfl, h6, rfl⟩
    · rw [h6]
      unfold lf at h7; rw [if_neg hE] at h7
      rcases h7 with ⟨h7, hE7⟩ | ⟨h7, -⟩
      · cases h7
        unfold lf at h9; rw [if_neg hE] at h9
        exact h9
      · cases h7
    · rw [h6]
      unfold lf at h7; rw [if_pos rfl] at h7
      simp only [Rs.and]
      rcases h7 with ⟨h7, hE7⟩ | ⟨h7, rfl⟩
      · rw [h7]
        unfold lf at h9; rw [if_neg hE7] at h9
        exact h9
      · rw [h7]
        unfold lf at h9; rw [if_pos rfl] at h9
        simpa [Rs.and] using h9
  · rw [if_neg h5]
    unfold lf at h6; rw [if_neg h5] at h6
    rcases h6 with ⟨h6, hE⟩ | ⟨b, -, h6, -⟩
    · cases h6
      unfold lf at h7; rw [if_neg h5] at h7
      rcases h7 with ⟨h7, hE7⟩ | ⟨h7, -⟩
      · cases h7
        unfold lf at h9; rw [if_neg h5] at h9
        exact h9
      · cases h7
    · cases h6
theorem want_len {j j' : Nat} {E' : Int} {x : List UInt8} (h : Cm (lf E j (wantS ts x j)) () j' E') (hE : E' = 0) : j + 1 ≤ j' := by
  rcases h with ⟨-, h⟩ | ⟨h, -⟩
  · exact absurd hE h
  · unfold lf at h
    split at h
    · exact (want_go ts _ _ _ _ h).1
    · cases h
set_option maxRecDepth 100000 in
set_option maxHeartbeats 4000000 in
theorem rstep_br5 {c : PN} {d : Option PN} {p : PN} {rows j4 j5 : Nat} {E4 E5 : Int} (hr : rows < 2000)
    (hW : ∀ w1 sv qs, Ry B ts w1 rb tv sv 0 o (i + 1) qs → Calls Tryz.prog 115 #[dp rb, .string (St wOpen)] w1 fun e w' => e = .returned (.tuple #[]) ∧ Kp (fun k => k = rb) w1 w' ∧ Ry B ts w' rb tv sv E4 o j4 qs)
    (hD : ∀ w1 sv qs, qs.length ≤ i → Ry B ts w1 rb tv sv E4 o j4 qs → Calls Tryz.prog 159 #[dp rb] w1 fun e w' => e = .returned (.tuple #[]) ∧ Kp (fun k => k = rb) w1 w' ∧ Ry B ts w' rb tv sv E5 (o + 1) j5 qs)
    (hQ : ∀ w1 sv qs, Ry B ts w1 rb tv sv E5 (o + 1) j5 qs → Calls Tryz.prog 74 #[dp rb] w1 (Y2 B ts rb tv sv (o + 1) w1 (lf E5 j5 (p j5 (qs.map (·.np))))))
    (hin : inBr ts d (i + 1) (qs.map (·.np)) = if E5 = 0 then (p j5 (qs.map (·.np))).and fun r j => (wantS ts wShut j).and fun _ j => .ok r j else .bad j5 E5)
    (h : Ry B ts w rb tv sv 0 o i qs) (hn : ∀ m, m < 5 → isW ts i (stepW.getD m []) = false) (hy : isW ts i (stepW.getD 5 []) = true) : Calls Tryz.prog 117 #[dp rb, .int .i64 (rows : Int)] w (Y2 B ts rb tv sv o w ((stepB ts c d rows i (qs.map (·.np))).and stepK)) := by
  have HWn := hid hW
  have HDp := hid hD
  have HQy := hid hQ
  have HIn := hid hin
  have HIl := hid (isW_lt hy)
  have o0 : (0 : Int) ≤ o := by omega
  have o1 : (o : Int) ≤ 17 := by have := h.ol; omega
  have ok0 : ((o : Int) + 1) - 1 = o := by omega
  have iI : (i : Int) ≤ 1024 := by have := h.il; have := h.tl; omega
  have i0 : (0 : Int) ≤ i := by omega
  have HN := hid hn
  have HQL := hid h.ql
  have HLt := hid h.lt
  have htl := h.tl
  have hf1 := fld1
  have hf2 := fld2
  have HR0 := hid h
  have HRw : Hid ((0 : Int) ≤ rows ∧ (rows : Int) < 2000) := ⟨by omega, by omega⟩
  have M0 : Hid True := trivial
  have M1 : Hid True := trivial
  have M2 : Hid True := trivial
  have M3 : Hid True := trivial
  have M4 : Hid True := trivial
  have HY := hid hy
  generalize hT : (stepB ts c d rows i (qs.map (·.np))).and stepK = T at *
  have HTt := hid hT
  clear h hT hn hr hy hW hD hQ hin
  have N1 : Hid True := trivial
  have N2 : Hid True := trivial
  have N3 : Hid True := trivial
  go_enter Tryz.func117, Tryz.ntmps117
  go_upto_region 27 with (first
    | (refine store_nd (q := (nam1 w { n0 with l := [(rows : Int)] })) rfl _ _ rfl rfl rfl (nd_all rfl rfl rfl) (zNd_at w (rows : Int)) rfl ?_; intro w2 h2 k2; have HB0 := hid (Bm.start1 HR0.out h2 k2); clear h2 k2)
    | (go_at_call 82; have FIRST := M0; refine (rsees_no HB0.out.h.r (x := stepW.getD 0 []) (HN.out 0 (by decide))).mono ?_; rintro e wn0 ⟨rfl, hq, hk⟩; have HB1 := hid (HB0.out.y1 hk hq); clear hq hk M0 FIRST)
    | (go_at_call 82; have FIRST := M1; refine (rsees_no HB1.out.h.r (x := stepW.getD 1 []) (HN.out 1 (by decide))).mono ?_; rintro e wn1 ⟨rfl, hq, hk⟩; have HB2 := hid (HB1.out.y1 hk hq); clear hq hk M1 FIRST)
    | (go_at_call 82; have FIRST := M2; refine (rsees_no HB2.out.h.r (x := stepW.getD 2 []) (HN.out 2 (by decide))).mono ?_; rintro e wn2 ⟨rfl, hq, hk⟩; have HB3 := hid (HB2.out.y1 hk hq); clear hq hk M2 FIRST)
    | (go_at_call 82; have FIRST := M3; refine (rsees_no HB3.out.h.r (x := stepW.getD 3 []) (HN.out 3 (by decide))).mono ?_; rintro e wn3 ⟨rfl, hq, hk⟩; have HB4 := hid (HB3.out.y1 hk hq); clear hq hk M3 FIRST)
    | (go_at_call 82; have FIRST := M4; refine (rsees_no HB4.out.h.r (x := stepW.getD 4 []) (HN.out 4 (by decide))).mono ?_; rintro e wn4 ⟨rfl, hq, hk⟩; have HB5 := hid (HB4.out.y1 hk hq); clear hq hk M4 FIRST)
    | (go_at_call 119; have FIRST := N1; refine (ris_is HB5.out.h.r (x := stepW.getD 5 []) (b := true) HY.out).mono ?_; rintro e wq1 ⟨rfl, hb⟩; have HB6 := hid (HB5.out.on hb); clear hb N1 FIRST; have cz : wq1.cell? ⟨w.heap.size + 1, 0, none⟩ = some (.int .i64 0) := block_cell HB6.out.h.b 0; have zz := block_frozen HB6.out.h.b 0; have HB8 := hid (HB6.out.set1 (q' := nam1 w { n0 with kind := 8, l := [(rows : Int)] }) 0 (.int .i64 8) (by kernel_rfl) (fun h => h.same rfl rfl rfl rfl rfl rfl)))
    | (go_at_call 119; have FIRST := N3; clear cz zz; refine (ris_is HB8.out.h.r (x := stepW.getD 5 []) (b := true) HY.out).mono ?_; rintro e wq3 ⟨rfl, hb⟩; have HB9 := hid (HB8.out.on hb); clear hb N3 FIRST; have cz : wq3.cell? ⟨w.heap.size + 1, 0, none⟩ = some (.int .i64 8) := block_cell HB9.out.h.b 0; have zz := block_frozen HB9.out.h.b 0; have HBa := hid (HB9.out.set1 (q' := nam1 w { n0 with kind := 7, l := [(rows : Int)] }) 0 (.int .i64 7) (by kernel_rfl) (fun h => h.same rfl rfl rfl rfl rfl rfl)); have kr := HB9.out.h.r.cell; have zr := HB9.out.h.r.frozen; have hne : ¬ rb = w.heap.size + 1 := (fun e => by have := HLt.out; omega)))
  clear kr zr cz zz hne
  generalize w.heap.size + 1 = nb at *
  generalize wq3.setCell ⟨nb, 0, none⟩ (.int .i64 7) = Wa at *
  have ka := HBa.out.h.r.cell
  have za := HBa.out.h.r.frozen
  have HBb := hid (HBa.out.y1 (Kp.set (T := fun k => k = rb) rfl (.int .i64 ((i : Int) + 1))) (HBa.out.h.r.next HIl.out))
  go_upto_region 28 with fail
  clear ka za
  generalize Wa.setCell ⟨rb, 1, none⟩ (.int .i64 ((i : Int) + 1)) = Wb at *
  go_upto_region 30 with (first
    | (go_at_call 115; refine (HWn.out _ _ _ HBb.out.h.r).mono ?_; rintro e wc ⟨rfl, hk, hq⟩; have HBc := hid (HBb.out.y1 hk hq); clear hk hq)
    | (go_at_call 159; refine (HDp.out _ _ _ HQL.out HBc.out.h.r).mono ?_; rintro e W2 ⟨rfl, hk, hq⟩; have HB2 := hid (HBc.out.y1 hk hq); clear hk hq))
  have HB2d := hid (HB2.out.on (Below.refl _ _).drew)
  have c2 : W2.drew.cell? ⟨nb, 16, none⟩ = some (.slice (some ⟨w.heap.size, 0, none⟩) 1 1) := block_cell HB2d.out.h.b 16
  go_region_law (first
    | (refine step_app2 (B := B) (lb := w.heap.size) (r := (rows : Int)) (z := z3) rfl (.tmp 89) (.tmp 92) rfl rfl rfl (HB3.out.on ((Below.refl _ _).alloc (Nat.le_refl _) (.cells #[.int .i64 z3] 3))).d.l (block_cell (alloc_block w3 (.cells #[.int .i64 z3] 3)) 0) (Nat.le_trans HB3.out.h.r.B_le (by simp)) ?_; intro v5 w5 ho hb; have HB5 := hid ((HB3.out.on ((Below.refl _ _).alloc (Nat.le_refl _) (.cells #[.int .i64 z3] 3))).on hb); have c5 : w5.cell? ⟨nb, 16, none⟩ = some (.slice (some ⟨w.heap.size, 0, none⟩) 1 1) := block_cell HB5.out.h.b 16; have z5 := block_frozen HB5.out.h.b 16; have HB6 := hid (HB5.out.set1 (q' := (⟨{ n0 with kind := 7, l := [(rows : Int), z3] }, v5, .slice none 0 0, .slice none 0 0⟩ : Nd)) 16 v5 (by kernel_rfl) (fun h => ⟨ho, h.n, h.g⟩)); obtain ⟨p5, q5, rfl⟩ := ho.form; clear c3 c4 ho hb)
    | (refine step_call1 (v := dp rb) rfl (.tmp 90) 88 rfl rfl enters_rquery ?_; refine (HQy.out _ _ _ HB2d.out.h.r).mono ?_; rintro e w3 ⟨hk, z3, E3, j3, sv3, qs3, rfl, hz3, hq, ha, hc⟩; refine ⟨_, rfl, ?_⟩; have HB3 := hid (HB2d.out.y2 hk ha hq); have HC3 := hid hc; have c3 : w3.cell? ⟨nb, 16, none⟩ = some (.slice (some ⟨w.heap.size, 0, none⟩) 1 1) := block_cell HB3.out.h.b 16; have c4 : (w3.alloc (.cells #[.int .i64 z3] 3)).cell? ⟨nb, 16, none⟩ = some (.slice (some ⟨w.heap.size, 0, none⟩) 1 1) := block_cell (HB3.out.on ((Below.refl _ _).alloc (Nat.le_refl _) (.cells #[.int .i64 z3] 3))).h.b 16; clear hk hq hc ha hz3))
  all_goals
    (clear c5 z5
     generalize w5.setCell ⟨nb, 16, none⟩ (.slice p5 2 q5) = W6 at *
     go_upto_region 33 with (go_at_call 115; refine (rwants_any HB6.out.h.r wShut).mono ?_; rintro e w7 ⟨hk, x7, v7, E7, j7, rfl, hv7, hq, hc⟩; obtain rfl := hv7; have HB7 := hid (HB6.out.y1 hk hq); have HC7 := hid hc; have k7 := hq.cell; have z7 := hq.frozen; simp only [Int.natCast_add, Int.cast_ofNat_Int] at k7; clear hk hq hc)
     have HB8 := hid (HB7.out.y1 (Kp.set (T := fun k => k = rb) rfl (.int .i64 (o : Int))) (Ry.less HB7.out.h.r))
     clear k7 z7
     generalize w7.setCell ⟨rb, 4, none⟩ (.int .i64 (o : Int)) = W8 at *)
  all_goals
    (go_wp2_with (first
      | (refine load_node (q := (⟨{ n0 with kind := 7, l := [(rows : Int), z3] }, .slice p5 2 q5, .slice none 0 0, .slice none 0 0⟩ : Nd)) rfl _ rfl rfl HB8.out.h.b ?_)
      | (go_at_call 83; refine (rlay_any HB8.out.h.r HB8.out.d (fun e => by have := want_len HC7.out e; have := HB6.out.h.r.ql; omega)).mono ?_; rintro e w9 ⟨hk, z9, E9, j9, sv9, qs9, rfl, hz9, hq, ha, hc⟩; have HB9 := hid (HB8.out.y2 hk ha hq); have HC9 := hid hc; have HZ9 := hid hz9; clear hk hq hc ha hz9))
     go_ret
     refine ⟨HB9.out.h.k, z9, E9, j9, sv9, qs9, rfl, HZ9.out, HB9.out.h.r, HB9.out.h.a, ?_⟩
     rw [← HTt.out]
     exact br_fin (.inl ⟨rfl, rfl⟩) HN.out HY.out HIn.out HC3.out HC7.out (by have := HC9.out; simpa using this))
set_option maxRecDepth 100000 in
set_option maxHeartbeats 4000000 in
theorem rstep_br6 {c : PN} {d : Option PN} {p : PN} {rows j4 j5 : Nat} {E4 E5 : Int} (hr : rows < 2000)
    (hW : ∀ w1 sv qs, Ry B ts w1 rb tv sv 0 o (i + 1) qs → Calls Tryz.prog 115 #[dp rb, .string (St wOpen)] w1 fun e w' => e = .returned (.tuple #[]) ∧ Kp (fun k => k = rb) w1 w' ∧ Ry B ts w' rb tv sv E4 o j4 qs)
    (hD : ∀ w1 sv qs, qs.length ≤ i → Ry B ts w1 rb tv sv E4 o j4 qs → Calls Tryz.prog 159 #[dp rb] w1 fun e w' => e = .returned (.tuple #[]) ∧ Kp (fun k => k = rb) w1 w' ∧ Ry B ts w' rb tv sv E5 (o + 1) j5 qs)
    (hQ : ∀ w1 sv qs, Ry B ts w1 rb tv sv E5 (o + 1) j5 qs → Calls Tryz.prog 74 #[dp rb] w1 (Y2 B ts rb tv sv (o + 1) w1 (lf E5 j5 (p j5 (qs.map (·.np))))))
    (hin : inBr ts d (i + 1) (qs.map (·.np)) = if E5 = 0 then (p j5 (qs.map (·.np))).and fun r j => (wantS ts wShut j).and fun _ j => .ok r j else .bad j5 E5)
    (h : Ry B ts w rb tv sv 0 o i qs) (hn : ∀ m, m < 6 → isW ts i (stepW.getD m []) = false) (hy : isW ts i (stepW.getD 6 []) = true) : Calls Tryz.prog 117 #[dp rb, .int .i64 (rows : Int)] w (Y2 B ts rb tv sv o w ((stepB ts c d rows i (qs.map (·.np))).and stepK)) := by
  have HWn := hid hW
  have HDp := hid hD
  have HQy := hid hQ
  have HIn := hid hin
  have HIl := hid (isW_lt hy)
  have o0 : (0 : Int) ≤ o := by omega
  have o1 : (o : Int) ≤ 17 := by have := h.ol; omega
  have ok0 : ((o : Int) + 1) - 1 = o := by omega
  have iI : (i : Int) ≤ 1024 := by have := h.il; have := h.tl; omega
  have i0 : (0 : Int) ≤ i := by omega
  have HN := hid hn
  have HQL := hid h.ql
  have HLt := hid h.lt
  have htl := h.tl
  have hf1 := fld1
  have hf2 := fld2
  have HR0 := hid h
  have HRw : Hid ((0 : Int) ≤ rows ∧ (rows : Int) < 2000) := ⟨by omega, by omega⟩
  have M0 : Hid True := trivial
  have M1 : Hid True := trivial
  have M2 : Hid True := trivial
  have M3 : Hid True := trivial
  have M4 : Hid True := trivial
  have M5 : Hid True := trivial
  have HY := hid hy
  generalize hT : (stepB ts c d rows i (qs.map (·.np))).and stepK = T at *
  have HTt := hid hT
  clear h hT hn hr hy hW hD hQ hin
  have N1 : Hid True := trivial
  have N2 : Hid True := trivial
  have N3 : Hid True := trivial
  go_enter Tryz.func117, Tryz.ntmps117
  go_upto_region 27 with (first
    | (refine store_nd (q := (nam1 w { n0 with l := [(rows : Int)] })) rfl _ _ rfl rfl rfl (nd_all rfl rfl rfl) (zNd_at w (rows : Int)) rfl ?_; intro w2 h2 k2; have HB0 := hid (Bm.start1 HR0.out h2 k2); clear h2 k2)
    | (go_at_call 82; have FIRST := M0; refine (rsees_no HB0.out.h.r (x := stepW.getD 0 []) (HN.out 0 (by decide))).mono ?_; rintro e wn0 ⟨rfl, hq, hk⟩; have HB1 := hid (HB0.out.y1 hk hq); clear hq hk M0 FIRST)
    | (go_at_call 82; have FIRST := M1; refine (rsees_no HB1.out.h.r (x := stepW.getD 1 []) (HN.out 1 (by decide))).mono ?_; rintro e wn1 ⟨rfl, hq, hk⟩; have HB2 := hid (HB1.out.y1 hk hq); clear hq hk M1 FIRST)
    | (go_at_call 82; have FIRST := M2; refine (rsees_no HB2.out.h.r (x := stepW.getD 2 []) (HN.out 2 (by decide))).mono ?_; rintro e wn2 ⟨rfl, hq, hk⟩; have HB3 := hid (HB2.out.y1 hk hq); clear hq hk M2 FIRST)
    | (go_at_call 82; have FIRST := M3; refine (rsees_no HB3.out.h.r (x := stepW.getD 3 []) (HN.out 3 (by decide))).mono ?_; rintro e wn3 ⟨rfl, hq, hk⟩; have HB4 := hid (HB3.out.y1 hk hq); clear hq hk M3 FIRST)
    | (go_at_call 82; have FIRST := M4; refine (rsees_no HB4.out.h.r (x := stepW.getD 4 []) (HN.out 4 (by decide))).mono ?_; rintro e wn4 ⟨rfl, hq, hk⟩; have HB5 := hid (HB4.out.y1 hk hq); clear hq hk M4 FIRST)
    | (go_at_call 119; have FIRST := N1; refine (ris_is HB5.out.h.r (x := stepW.getD 5 []) (b := false) (HN.out 5 (by decide))).mono ?_; rintro e wq1 ⟨rfl, hb⟩; have HB5b := hid (HB5.out.on hb); clear hb N1 FIRST)
    | (go_at_call 119; have FIRST := N2; refine (ris_is HB5b.out.h.r (x := stepW.getD 6 []) (b := true) HY.out).mono ?_; rintro e wq2 ⟨rfl, hb⟩; have HB6 := hid (HB5b.out.on hb); clear hb N2 FIRST; have cz : wq2.cell? ⟨w.heap.size + 1, 0, none⟩ = some (.int .i64 0) := block_cell HB6.out.h.b 0; have zz := block_frozen HB6.out.h.b 0; have HB8 := hid (HB6.out.set1 (q' := nam1 w { n0 with kind := 8, l := [(rows : Int)] }) 0 (.int .i64 8) (by kernel_rfl) (fun h => h.same rfl rfl rfl rfl rfl rfl)))
    | (go_at_call 119; have FIRST := N3; clear cz zz; refine (ris_is HB8.out.h.r (x := stepW.getD 5 []) (b := false) (HN.out 5 (by decide))).mono ?_; rintro e wq3 ⟨rfl, hb⟩; have HB9 := hid (HB8.out.on hb); clear hb N3 FIRST; have HBa := HB9; have kr := HB9.out.h.r.cell; have zr := HB9.out.h.r.frozen))
  clear kr zr
  generalize w.heap.size + 1 = nb at *
  generalize wq3 = Wa at *
  have ka := HBa.out.h.r.cell
  have za := HBa.out.h.r.frozen
  have HBb := hid (HBa.out.y1 (Kp.set (T := fun k => k = rb) rfl (.int .i64 ((i : Int) + 1))) (HBa.out.h.r.next HIl.out))
  go_upto_region 28 with fail
  clear ka za
  generalize Wa.setCell ⟨rb, 1, none⟩ (.int .i64 ((i : Int) + 1)) = Wb at *
  go_upto_region 30 with (first
    | (go_at_call 115; refine (HWn.out _ _ _ HBb.out.h.r).mono ?_; rintro e wc ⟨rfl, hk, hq⟩; have HBc := hid (HBb.out.y1 hk hq); clear hk hq)
    | (go_at_call 159; refine (HDp.out _ _ _ HQL.out HBc.out.h.r).mono ?_; rintro e W2 ⟨rfl, hk, hq⟩; have HB2 := hid (HBc.out.y1 hk hq); clear hk hq))
  have HB2d := hid (HB2.out.on (Below.refl _ _).drew)
  have c2 : W2.drew.cell? ⟨nb, 16, none⟩ = some (.slice (some ⟨w.heap.size, 0, none⟩) 1 1) := block_cell HB2d.out.h.b 16
  go_region_law (first
    | (refine step_app2 (B := B) (lb := w.heap.size) (r := (rows : Int)) (z := z3) rfl (.tmp 89) (.tmp 92) rfl rfl rfl (HB3.out.on ((Below.refl _ _).alloc (Nat.le_refl _) (.cells #[.int .i64 z3] 3))).d.l (block_cell (alloc_block w3 (.cells #[.int .i64 z3] 3)) 0) (Nat.le_trans HB3.out.h.r.B_le (by simp)) ?_; intro v5 w5 ho hb; have HB5 := hid ((HB3.out.on ((Below.refl _ _).alloc (Nat.le_refl _) (.cells #[.int .i64 z3] 3))).on hb); have c5 : w5.cell? ⟨nb, 16, none⟩ = some (.slice (some ⟨w.heap.size, 0, none⟩) 1 1) := block_cell HB5.out.h.b 16; have z5 := block_frozen HB5.out.h.b 16; have HB6 := hid (HB5.out.set1 (q' := (⟨{ n0 with kind := 8, l := [(rows : Int), z3] }, v5, .slice none 0 0, .slice none 0 0⟩ : Nd)) 16 v5 (by kernel_rfl) (fun h => ⟨ho, h.n, h.g⟩)); obtain ⟨p5, q5, rfl⟩ := ho.form; clear c3 c4 ho hb)
    | (refine step_call1 (v := dp rb) rfl (.tmp 90) 88 rfl rfl enters_rquery ?_; refine (HQy.out _ _ _ HB2d.out.h.r).mono ?_; rintro e w3 ⟨hk, z3, E3, j3, sv3, qs3, rfl, hz3, hq, ha, hc⟩; refine ⟨_, rfl, ?_⟩; have HB3 := hid (HB2d.out.y2 hk ha hq); have HC3 := hid hc; have c3 : w3.cell? ⟨nb, 16, none⟩ = some (.slice (some ⟨w.heap.size, 0, none⟩) 1 1) := block_cell HB3.out.h.b 16; have c4 : (w3.alloc (.cells #[.int .i64 z3] 3)).cell? ⟨nb, 16, none⟩ = some (.slice (some ⟨w.heap.size, 0, none⟩) 1 1) := block_cell (HB3.out.on ((Below.refl _ _).alloc (Nat.le_refl _) (.cells #[.int .i64 z3] 3))).h.b 16; clear hk hq hc ha hz3))
  all_goals
    (clear c5 z5
     generalize w5.setCell ⟨nb, 16, none⟩ (.slice p5 2 q5) = W6 at *
     go_upto_region 33 with (go_at_call 115; refine (rwants_any HB6.out.h.r wShut).mono ?_; rintro e w7 ⟨hk, x7, v7, E7, j7, rfl, hv7, hq, hc⟩; obtain rfl := hv7; have HB7 := hid (HB6.out.y1 hk hq); have HC7 := hid hc; have k7 := hq.cell; have z7 := hq.frozen; simp only [Int.natCast_add, Int.cast_ofNat_Int] at k7; clear hk hq hc)
     have HB8 := hid (HB7.out.y1 (Kp.set (T := fun k => k = rb) rfl (.int .i64 (o : Int))) (Ry.less HB7.out.h.r))
     clear k7 z7
     generalize w7.setCell ⟨rb, 4, none⟩ (.int .i64 (o : Int)) = W8 at *)
  all_goals
    (go_wp2_with (first
      | (refine load_node (q := (⟨{ n0 with kind := 8, l := [(rows : Int), z3] }, .slice p5 2 q5, .slice none 0 0, .slice none 0 0⟩ : Nd)) rfl _ rfl rfl HB8.out.h.b ?_)
      | (go_at_call 83; refine (rlay_any HB8.out.h.r HB8.out.d (fun e => by have := want_len HC7.out e; have := HB6.out.h.r.ql; omega)).mono ?_; rintro e w9 ⟨hk, z9, E9, j9, sv9, qs9, rfl, hz9, hq, ha, hc⟩; have HB9 := hid (HB8.out.y2 hk ha hq); have HC9 := hid hc; have HZ9 := hid hz9; clear hk hq hc ha hz9))
     go_ret
     refine ⟨HB9.out.h.k, z9, E9, j9, sv9, qs9, rfl, HZ9.out, HB9.out.h.r, HB9.out.h.a, ?_⟩
     rw [← HTt.out]
     exact br_fin (.inr ⟨rfl, rfl⟩) HN.out HY.out HIn.out HC3.out HC7.out (by have := HC9.out; simpa using this))
end
end Go.Proofs.YtmpjmimhoikknaaGreatDoor
namespace Go.Proofs.YtmpjmimhoikknaaGreatDoor
open Go.RowKit Go.Joins

section
variable {B : Nat} {ts : List Tp} {w w' : World} {rb : Nat} {tv sv : Value} {E : Int} {o i : Nat} {qs : List Nd}
/- Where there is an error nothing is read. -/
theorem rquery_err (hE : ¬ E = 0) (h : Ry B ts w rb tv sv E o i qs) : Calls Tryz.prog 74 #[dp rb] w (Y2 B ts rb tv sv o w (lf E i (queryB ts (fun i _ => .bad i 2) none i (qs.map (·.np))))) :=
  rquery_any (fun e => absurd e hE) gon_bad (fun p h => by cases h) h
theorem wants_open0 (h : Ry B ts w rb tv sv 0 o (i + 1) qs) (hw : isW ts (i + 1) wOpen = false) : Calls Tryz.prog 115 #[dp rb, .string (St wOpen)] w fun e w' => e = .returned (.tuple #[]) ∧ Kp (fun k => k = rb) w w' ∧ Ry B ts w' rb tv sv 120 o (i + 1) qs := by
  refine (rwants_any h wOpen).mono ?_
  rintro e w1 ⟨hk, x, v, E1, j1, rfl, hv, hq, hc⟩
  obtain rfl := hv
  unfold lf wantS at hc; rw [if_pos rfl, hw, if_neg (by decide)] at hc
  rcases hc with ⟨hc, -⟩ | ⟨hc, -⟩
  · cases hc; exact ⟨rfl, hk, hq⟩
  · cases hc
theorem wants_open1 (h : Ry B ts w rb tv sv 0 o (i + 1) qs) (hw : isW ts (i + 1) wOpen = true) : Calls Tryz.prog 115 #[dp rb, .string (St wOpen)] w fun e w' => e = .returned (.tuple #[]) ∧ Kp (fun k => k = rb) w w' ∧ Ry B ts w' rb tv sv 0 o (i + 2) qs := by
  refine (rwants_any h wOpen).mono ?_
  rintro e w1 ⟨hk, x, v, E1, j1, rfl, hv, hq, hc⟩
  obtain rfl := hv
  unfold lf wantS at hc; rw [if_pos rfl, hw, if_pos rfl] at hc
  rcases hc with ⟨hc, -⟩ | ⟨hc, rfl⟩
  · cases hc
  · cases hc; exact ⟨rfl, hk, hq⟩
theorem rdeeper_bad (hE : ¬ E = 0) (h : Ry B ts w rb tv sv E o i qs) (hl : qs.length + 1 ≤ i) (ho : o ≤ 16) : Calls Tryz.prog 159 #[dp rb] w fun e w' => e = .returned (.tuple #[]) ∧ Kp (fun k => k = rb) w w' ∧ Ry B ts w' rb tv sv E (o + 1) i qs := by
  refine (rdeeper_any h hl ho).mono ?_
  rintro e w2 ⟨rfl, hk, ⟨he, hq⟩ | ⟨he, ho2, hq⟩ | ⟨he, ho2, hq⟩⟩
  · exact ⟨rfl, hk, hq⟩
  · exact absurd he hE
  · exact absurd he hE
theorem rstep_br {c : PN} {d : Option PN} {k rows : Nat} (hk : k = 5 ∨ k = 6) (hr : rows < 2000) (ho : o ≤ 16) (hd : DeepY 74 B ts rb tv o d) (h : Ry B ts w rb tv sv 0 o i qs) (hn : ∀ m, m < k → isW ts i (stepW.getD m []) = false) (hy : isW ts i (stepW.getD k []) = true) : Calls Tryz.prog 117 #[dp rb, .int .i64 (rows : Int)] w (Y2 B ts rb tv sv o w ((stepB ts c d rows i (qs.map (·.np))).and stepK)) := by
  cases hw : isW ts (i + 1) wOpen with
  | false =>
    have hin : inBr ts d (i + 1) (qs.map (·.np)) = if (120 : Int) = 0 then (queryB ts (fun i _ => .bad i 2) none (i + 1) (qs.map (·.np))).and fun r j => (wantS ts wShut j).and fun _ j => .ok r j else .bad (i + 1) 120 := by
      rw [if_neg (by decide)]; unfold inBr; rw [hw, if_neg (by decide)]
    rcases hk with rfl | rfl
    · exact rstep_br5 (E4 := 120) (j4 := i + 1) hr (fun _ _ _ h => wants_open0 h hw) (fun _ _ _ hl h => rdeeper_bad (by decide) h (by omega) ho) (fun _ _ _ h => rquery_err (by decide) h) hin h hn hy
    · exact rstep_br6 (E4 := 120) (j4 := i + 1) hr (fun _ _ _ h => wants_open0 h hw) (fun _ _ _ hl h => rdeeper_bad (by decide) h (by omega) ho) (fun _ _ _ h => rquery_err (by decide) h) hin h hn hy
  | true =>
    cases d with
    | none =>
      have h16 : o = 16 := hd
      have hin : inBr ts none (i + 1) (qs.map (·.np)) = if (2 : Int) = 0 then (queryB ts (fun i _ => .bad i 2) none (i + 1) (qs.map (·.np))).and fun r j => (wantS ts wShut j).and fun _ j => .ok r j else .bad (i + 1) 2 := by
        rw [if_neg (by decide)]; unfold inBr; rw [hw, if_pos rfl]
      rcases hk with rfl | rfl
      · exact rstep_br5 (E4 := 0) (j4 := i + 2) hr (fun _ _ _ h => wants_open1 h hw) (fun _ _ _ hl h => rdeeper_long h (by omega) h16) (fun _ _ _ h => rquery_err (by decide) h) hin h hn hy
      · exact rstep_br6 (E4 := 0) (j4 := i + 2) hr (fun _ _ _ h => wants_open1 h hw) (fun _ _ _ hl h => rdeeper_long h (by omega) h16) (fun _ _ _ h => rquery_err (by decide) h) hin h hn hy
    | some p =>
      obtain ⟨h16, hp, hg⟩ := hd
      have hin : inBr ts (some p) (i + 1) (qs.map (·.np)) = if (0 : Int) = 0 then (p (i + 2) (qs.map (·.np))).and fun r j => (wantS ts wShut j).and fun _ j => .ok r j else .bad (i + 2) 0 := by
        rw [if_pos rfl]; unfold inBr; rw [hw, if_pos rfl]
      rcases hk with rfl | rfl
      · exact rstep_br5 (E4 := 0) (j4 := i + 2) hr (fun _ _ _ h => wants_open1 h hw) (fun _ _ _ hl h => rdeeper_ok h (by omega) h16) (fun _ _ _ h => hp _ _ _ _ _ (fun h17 => by omega) h) hin h hn hy
      · exact rstep_br6 (E4 := 0) (j4 := i + 2) hr (fun _ _ _ h => wants_open1 h hw) (fun _ _ _ hl h => rdeeper_ok h (by omega) h16) (fun _ _ _ h => hp _ _ _ _ _ (fun h17 => by omega) h) hin h hn hy
theorem rstep_any {c : PN} {d : Option PN} (ho : o ≤ 16) (hc : PNy 47 B ts rb tv o c) (hg : GoN ts c) (hd : DeepY 74 B ts rb tv o d) : StepY B ts rb tv o c d := by
  intro w sv i qs rows hr h
  have nx : ∀ k, (∀ m, m < k → isW ts i (stepW.getD m []) = false) → isW ts i (stepW.getD k []) = false → ∀ m, m < k + 1 → isW ts i (stepW.getD m []) = false := fun k h1 h2 m hm => by
    rcases Nat.lt_or_ge m k with h | h
    · exact h1 m h
    · rw [show m = k by omega]; exact h2
  have n0' : ∀ m, m < 0 → isW ts i (stepW.getD m []) = false := fun m hm => by omega
  cases h0 : isW ts i (stepW.getD 0 []) with
  | true => exact rstep_where hr (by omega) hc hg h n0' h0
  | false =>
    have n1 := nx 0 n0' h0
    cases h1 : isW ts i (stepW.getD 1 []) with
    | true => exact rstep_keep hr h n1 h1
    | false =>
      have n2 := nx 1 n1 h1
      cases h2 : isW ts i (stepW.getD 2 []) with
      | true => exact rstep_align hr h n2 h2
      | false =>
        have n3 := nx 2 n2 h2
        cases h3 : isW ts i (stepW.getD 3 []) with
        | true =>
          cases hb : isW ts (i + 1) wColon with
          | true => exact rstep_group0 hr h n3 h3 hb
          | false => exact rstep_group1 hr h n3 h3 hb
        | false =>
          have n4 := nx 3 n3 h3
          cases h4 : isW ts i (stepW.getD 4 []) with
          | true => exact rstep_top hr h n4 h4
          | false =>
            have n5 := nx 4 n4 h4
            cases h5 : isW ts i (stepW.getD 5 []) with
            | true => exact rstep_br (.inl rfl) hr ho hd h n5 h5
            | false =>
              have n6 := nx 5 n5 h5
              cases h6 : isW ts i (stepW.getD 6 []) with
              | true => exact rstep_br (.inr rfl) hr ho hd h n6 h6
              | false => exact rstep_none hr h (nx 6 n6 h6)
theorem rqueryS : ∀ n : Nat, n ≤ 16 → PNy 74 B ts rb tv (16 - n) (queryS ts n)
  | 0, hn => fun _ _ _ _ _ _ h => rquery_any (d := none) (fun _ => rstep_any (by omega) (rcondS 0 hn) (cond_go ts 0) (show 16 - 0 = 16 from rfl)) (cond_go ts 0) (fun p h => by cases h) h
  | n + 1, hn => fun _ _ _ _ _ _ h => rquery_any (d := some (queryS ts n)) (fun _ => rstep_any (by omega) (rcondS (n + 1) hn) (cond_go ts (n + 1)) ⟨by omega, by rw [show 16 - (n + 1) + 1 = 16 - n by omega]; exact rqueryS n (by omega), query_go ts n⟩) (cond_go ts (n + 1)) (fun p h => by cases h; exact query_go ts n) h
end
end Go.Proofs.YtmpjmimhoikknaaGreatDoor
namespace Go.Proofs.YtmpjmimhoikknaaGreatDoor
open Go.RowKit Go.Joins

def endS (ts : List Tp) (E : Int) (j : Nat) (ns : List Np) : List Np × Nat × Int :=
  if E = 0 then (if j < ts.length then ([], j, 120) else if 128 < ns.length then ([], 0, 2) else (ns, 0, 0)) else ([], j, E)
section
variable {B : Nat} {ts : List Tp} {w w' : World} {rb : Nat} {tv sv : Value} {E : Int} {o i : Nat} {qs : List Nd}
def RenP (B : Nat) (rb : Nat) (w : World) (r : List Np × Nat × Int) (e : Ending) (w' : World) : Prop :=
  ∃ v, e = .returned (.tuple #[.agg #[v], .int .i64 (r.2.1 : Int), .int .i64 r.2.2]) ∧ Nq B w' v r.1 ∧ Kp (fun k => k = rb) w w'
theorem Ry.nq (h : Ry B ts w rb tv sv E o i qs) : Nq B w sv (qs.map (·.np)) := ⟨qs, h.own, h.each, rfl⟩
set_option maxRecDepth 100000 in
set_option maxHeartbeats 2000000 in
theorem rend_any (h : Ry B ts w rb tv sv E o i qs) : Calls Tryz.prog 48 #[dp rb] w (RenP B rb w (endS ts E i (qs.map (·.np)))) := by
  have HB0 : Hid (Below w.heap.size w (w.alloc (.cells #[.slice none 0 0] 24))) := (Below.refl _ _).alloc (Nat.le_refl _) _
  have HZ := hid (alloc_block w (.cells #[.slice none 0 0] 24))
  have HR0 := hid h
  have HR1 := hid (h.on HB0.out)
  have htl := h.tl
  have hil := h.il
  have hql := h.ql
  have hne : ¬ rb = w.heap.size := by have := h.lt; omega
  obtain ⟨p, cap, rfl, hc1, hc2⟩ := h.tok.form
  obtain ⟨ps, cs, rfl⟩ := h.own.form
  unfold maxLen at hc2
  have iI0 : (0 : Int) ≤ i := by omega
  have k1 := HR1.out.cell
  have z1 := HR1.out.frozen
  have kz := block_cell HZ.out
  have fz := block_frozen HZ.out
  generalize hW : w.alloc (.cells #[.slice none 0 0] 24) = w1 at *
  have HW := hid hW
  clear h hW
  by_cases hE : E = 0
  · subst hE
    by_cases hi : i < ts.length
    · have dI : decide ((i : Int) < ts.length) = true := by simp; omega
      have iI : (i : Int) < ts.length := by omega
      have HE : Hid (endS ts 0 i (qs.map (·.np)) = ([], i, 120)) := by show _ = _; unfold endS; rw [if_pos rfl, if_pos hi]
      clear hi
      go_enter Tryz.func48, Tryz.ntmps48
      go_upto_region 1 with fail
      rw [HW.out]
      go_quiet (fail)
      have HR2 := hid (HR1.out.on (below_drewN (Below.refl _ _) nq))
      have HZ2 := hid (block_on HZ.out (below_drewN (Below.refl w1.heap.size w1) nq))
      have HK2 := hid ((Kp.of (T := fun k => k = rb) HB0.out).trans (Kp.of (below_drewN (Below.refl w1.heap.size w1) nq)))
      generalize w1.drewN nq = W2 at *
      clear k1 z1 kz fz
      have k1 := HR2.out.cell
      go_upto_region 4 with (go_at_call 84; clear k1; refine (rfail_any HR2.out).mono ?_; rintro e w3 ⟨rfl, hq, hk⟩; have HR3 := hid hq; have HZ3 := hid (hk.blk HZ2.out (fun e => hne e.symm)); have HK3 := hid (HK2.out.trans hk); have k1 : ∀ j, w3.cell? ⟨rb, j, none⟩ = #[.slice p ts.length cap, .int .i64 (i : Int), .slice ps qs.length cs, .int .i64 120, .int .i64 (o : Int)][j]? := hq.cell; have kz := block_cell HZ3.out; have fz := block_frozen HZ3.out; clear hq hk)
      go_region_with (fail)
      all_goals
        (go_wp2
         refine bodyPost_ret (v := .tuple #[.agg #[.slice none 0 0], .int .i64 (i : Int), .int .i64 120]) (by simp [results, Tryz.results48, go_sem, block_cell (block_on (q_set HZ3.out (.slice none 0 0)) (Below.refl _ _).drew) 0]) rfl ?_
         show RenP _ _ _ _ _ _
         rw [HE.out]
         exact ⟨_, rfl, Nq.nil _ _, (HK3.out.trans' (Kp.set (T := fun k => k = w.heap.size) rfl _) (fun k hk e => by omega)).trans (Kp.drew _ _)⟩)
    · have dI : decide ((i : Int) < ts.length) = false := by simp; omega
      have iI : ¬ (i : Int) < ts.length := by omega
      by_cases h128 : 128 < qs.length
      · have HE : Hid (endS ts 0 i (qs.map (·.np)) = ([], 0, 2)) := by show _ = _; unfold endS; rw [if_pos rfl, if_neg hi, if_pos (by simpa using h128)]
        have qI : 128 < (qs.length : Int) := by omega
        clear hi h128
        go_enter Tryz.func48, Tryz.ntmps48
        go_upto_region 1 with fail
        rw [HW.out]
        go_quiet (fail)
        have HR2 := hid (HR1.out.on (below_drewN (Below.refl _ _) nq))
        have HZ2 := hid (block_on HZ.out (below_drewN (Below.refl w1.heap.size w1) nq))
        have HK2 := hid ((Kp.of (T := fun k => k = rb) HB0.out).trans (Kp.of (below_drewN (Below.refl w1.heap.size w1) nq)))
        generalize w1.drewN nq = W2 at *
        clear k1 z1 kz fz
        have k1 := HR2.out.cell
        have kz := block_cell HZ2.out
        have fz := block_frozen HZ2.out
        go_wp2_with fail
        refine bodyPost_ret (v := .tuple #[.agg #[.slice none 0 0], .int .i64 0, .int .i64 2]) (by simp [results, Tryz.results48, go_sem, block_cell (q_set HZ2.out (.slice none 0 0)) 0]) rfl ?_
        show RenP _ _ _ _ _ _
        rw [HE.out]
        exact ⟨_, rfl, Nq.nil _ _, HK2.out.trans' (Kp.set (T := fun k => k = w.heap.size) rfl _) (fun k hk e => by omega)⟩
      · have HE : Hid (endS ts 0 i (qs.map (·.np)) = (qs.map (·.np), 0, 0)) := by show _ = _; unfold endS; rw [if_pos rfl, if_neg hi, if_neg (by simpa using h128)]
        have qI : ¬ 128 < (qs.length : Int) := by omega
        have HBl : Hid (B ≤ w.heap.size) := HR0.out.B_le
        clear hi h128
        go_enter Tryz.func48, Tryz.ntmps48
        go_upto_region 1 with fail
        rw [HW.out]
        go_quiet (fail)
        have HR2 := hid (HR1.out.on (below_drewN (Below.refl _ _) nq))
        have HZ2 := hid (block_on HZ.out (below_drewN (Below.refl w1.heap.size w1) nq))
        have HK2 := hid ((Kp.of (T := fun k => k = rb) HB0.out).trans (Kp.of (below_drewN (Below.refl w1.heap.size w1) nq)))
        generalize w1.drewN nq = W2 at *
        clear k1 z1 kz fz
        have k1 := HR2.out.cell
        have kz := block_cell HZ2.out
        have fz := block_frozen HZ2.out
        go_wp2_with fail
        refine bodyPost_ret (v := .tuple #[.agg #[.slice ps qs.length cs], .int .i64 0, .int .i64 0]) (by simp [results, Tryz.results48, go_sem, block_cell (q_set HZ2.out (.slice ps qs.length cs)) 0]) rfl ?_
        show RenP _ _ _ _ _ _
        rw [HE.out]
        have hk := HK2.out.trans' (Kp.set (T := fun k => k = w.heap.size) (i := 0) (w := W2) rfl (.slice ps qs.length cs)) (fun k hk e => by omega)
        have hq := HR2.out.kp (Kp.set (T := fun k => k = w.heap.size) (i := 0) (w := W2) rfl (.slice ps qs.length cs)) (fun k ht e => by have := HR0.out.T_lt k ht; omega) (by rintro k rfl c t fz hc; rw [HZ2.out] at hc; cases hc; decide) (fun k e => by have := HBl.out; omega)
        exact ⟨_, rfl, hq.nq, hk⟩
  · have bE : (E == 0) = false := by simp [hE]
    have bE2 : (E != 0) = true := by simp [hE]
    have HE : Hid (endS ts E i (qs.map (·.np)) = ([], i, E)) := by show _ = _; unfold endS; rw [if_neg hE]
    clear hE
    go_enter Tryz.func48, Tryz.ntmps48
    go_upto_region 1 with fail
    rw [HW.out]
    go_quiet (fail)
    have HR2 := hid (HR1.out.on (below_drewN (Below.refl _ _) nq))
    have HZ2 := hid (block_on HZ.out (below_drewN (Below.refl w1.heap.size w1) nq))
    have HK2 := hid ((Kp.of (T := fun k => k = rb) HB0.out).trans (Kp.of (below_drewN (Below.refl w1.heap.size w1) nq)))
    generalize w1.drewN nq = W2 at *
    clear k1 z1 kz fz
    have k1 := HR2.out.cell
    have kz := block_cell HZ2.out
    have fz := block_frozen HZ2.out
    go_upto_region 4 with fail
    go_region_with (fail)
    all_goals
      (go_wp2
       refine bodyPost_ret (v := .tuple #[.agg #[.slice none 0 0], .int .i64 (i : Int), .int .i64 E]) (by simp [results, Tryz.results48, go_sem, block_cell (block_on (q_set HZ2.out (.slice none 0 0)) (Below.refl _ _).drew) 0]) rfl ?_
       show RenP _ _ _ _ _ _
       rw [HE.out]
       exact ⟨_, rfl, Nq.nil _ _, (HK2.out.trans' (Kp.set (T := fun k => k = w.heap.size) rfl _) (fun k hk e => by omega)).trans (Kp.drew _ _)⟩)
end
end Go.Proofs.YtmpjmimhoikknaaGreatDoor
namespace Go.Proofs.YtmpjmimhoikknaaGreatDoor
open Go.RowKit Go.Joins

theorem end_whole {ts : List Tp} {p : PN} {z E : Int} {ns : List Np} {j : Nat} (hl : ¬ 1024 < ts.length) (h : Cm2 (lf 0 0 (p 0 [])) z ns j E) : endS ts E j ns = wholeS ts p := by
  unfold lf at h; rw [if_pos rfl] at h
  unfold wholeS; rw [if_neg hl]
  rcases h with ⟨h, hE⟩ | ⟨a, rfl, h, rfl⟩
  · rw [h]; unfold endS; rw [if_neg hE]
  · rw [h]; unfold endS; rw [if_pos rfl]
section
variable {ts : List Tp} {w : World} {tv : Value}
theorem ry_start {w1 : World} (htok : SlAt (fun b => b < w1.heap.size) Tp.cells 4 w1 tv ts) (hl : ts.length ≤ 1024) : Ry w1.heap.size ts (w1.alloc (.cells #[tv, .int .i64 0, .slice none 0 0, .int .i64 0, .int .i64 0] 90)) w1.heap.size tv (.slice none 0 0) 0 0 0 [] :=
  ⟨Nat.le_refl _, alloc_block _ _, Own.nil _ _ _ _ _, fun q hq => by simp at hq, htok.on ((Below.refl _ _).alloc (Nat.le_refl _) _), Nat.zero_le _, hl, Nat.le_refl _, by omega⟩
set_option maxRecDepth 100000 in
set_option maxHeartbeats 2000000 in
theorem RParse_any (htok : SlAt (fun b => b < w.heap.size) Tp.cells 4 w tv ts) : Calls Tryz.prog 45 #[tv] w (WhP w (wholeS ts (queryS ts 16))) := by
  have HB0 : Hid (Below w.heap.size w (w.alloc (.cells #[.slice none 0 0] 24))) := (Below.refl _ _).alloc (Nat.le_refl _) _
  have HZ := hid (alloc_block w (.cells #[.slice none 0 0] 24))
  have HTk := hid ((htok.on HB0.out).imp (Q' := fun b => b < (w.alloc (.cells #[.slice none 0 0] 24)).heap.size) (fun b hb => by simp; omega))
  generalize hW : w.alloc (.cells #[.slice none 0 0] 24) = w1 at *
  have HW := hid hW
  obtain ⟨p, cap, rfl, hc1, hc2⟩ := htok.form
  unfold maxLen at hc2
  clear htok hW
  by_cases hl : 1024 < ts.length
  · have lI : 1024 < (ts.length : Int) := by omega
    have HE : Hid (wholeS ts (queryS ts 16) = ([], 0, 2)) := by show _ = _; unfold wholeS; rw [if_pos hl]
    have kz := block_cell HZ.out
    have fz := block_frozen HZ.out
    clear hl
    go_enter Tryz.func45, Tryz.ntmps45
    go_upto_region 1 with fail
    rw [HW.out]
    go_wp2_with fail
    have hX := q_box (v := .slice none 0 0) (w2 := w1) HZ.out HB0.out (Nq.nil _ _) (Below.refl _ _)
    have k9 := block_cell hX.1
    refine bodyPost_ret (v := .tuple #[.agg #[.slice none 0 0], .int .i64 0, .int .i64 2]) (by simp [results, Tryz.results45, go_sem, k9]) rfl ?_
    show WhP _ _ _ _
    rw [HE.out]
    exact ⟨_, rfl, hX.2.1, hX.2.2⟩
  · have lI : ¬ 1024 < (ts.length : Int) := by omega
    have HL := hid hl
    have HR := hid (ry_start HTk.out (by omega))
    clear hl
    go_enter Tryz.func45, Tryz.ntmps45
    go_upto_region 1 with fail
    rw [HW.out]
    go_wp2_with (first
      | (go_at_call 74; refine (rqueryS 16 (Nat.le_refl _) _ _ _ _ _ (fun h17 => by omega) HR.out).mono ?_; rintro e w3 ⟨hk, z3, E3, j3, sv3, qs3, rfl, hz3, hq, ha, hc⟩; have HR3 := hid hq; have HC3 := hid hc; have HB3 := hid (((Below.refl w1.heap.size w1).alloc (Nat.le_refl _) (.cells #[.slice p ts.length cap, .int .i64 0, .slice none 0 0, .int .i64 0, .int .i64 0] 90)).trans (hk.below (by simp) (fun k ht => ht.elim (fun e => by omega) (fun e => by cases e)))); clear hk hq ha hc hz3)
      | (go_at_call 48; refine (rend_any HR3.out).mono ?_; rintro e w4 ⟨v4, rfl, hn, hk⟩; have HB4 := hid (HB3.out.trans (hk.below HB3.out.size (fun k e => by omega))); have HN4 := hid hn; have HX := hid (q_box HZ.out HB0.out hn (HB3.out.trans (hk.below HB3.out.size (fun k e => by omega)))); have kz := block_cell (block_on HZ.out HB4.out); have fz := block_frozen (block_on HZ.out HB4.out); obtain ⟨qs4, ho4, -⟩ := hn; obtain ⟨pv, cv, rfl⟩ := ho4.form; clear hk ho4))
    have k9 := block_cell HX.out.1
    refine bodyPost_ret (v := .tuple #[.agg #[.slice pv qs4.length cv], .int .i64 ((endS ts E3 j3 (qs3.map (·.np))).2.1 : Int), .int .i64 (endS ts E3 j3 (qs3.map (·.np))).2.2]) (by simp [results, Tryz.results45, go_sem, k9]) rfl ?_
    show WhP _ _ _ _
    rw [← end_whole HL.out HC3.out]
    exact ⟨_, rfl, HX.out.2.1, HX.out.2.2⟩
set_option maxRecDepth 100000 in
set_option maxHeartbeats 2000000 in
theorem RCond_any (htok : SlAt (fun b => b < w.heap.size) Tp.cells 4 w tv ts) : Calls Tryz.prog 22 #[tv] w (WhP w (wholeS ts (condS ts 16))) := by
  have HB0 : Hid (Below w.heap.size w (w.alloc (.cells #[.slice none 0 0] 24))) := (Below.refl _ _).alloc (Nat.le_refl _) _
  have HZ := hid (alloc_block w (.cells #[.slice none 0 0] 24))
  have HTk := hid ((htok.on HB0.out).imp (Q' := fun b => b < (w.alloc (.cells #[.slice none 0 0] 24)).heap.size) (fun b hb => by simp; omega))
  generalize hW : w.alloc (.cells #[.slice none 0 0] 24) = w1 at *
  have HW := hid hW
  obtain ⟨p, cap, rfl, hc1, hc2⟩ := htok.form
  unfold maxLen at hc2
  clear htok hW
  by_cases hl : 1024 < ts.length
  · have lI : 1024 < (ts.length : Int) := by omega
    have HE : Hid (wholeS ts (condS ts 16) = ([], 0, 2)) := by show _ = _; unfold wholeS; rw [if_pos hl]
    have kz := block_cell HZ.out
    have fz := block_frozen HZ.out
    clear hl
    go_enter Tryz.func22, Tryz.ntmps22
    go_upto_region 1 with fail
    rw [HW.out]
    go_wp2_with fail
    have hX := q_box (v := .slice none 0 0) (w2 := w1) HZ.out HB0.out (Nq.nil _ _) (Below.refl _ _)
    have k9 := block_cell hX.1
    refine bodyPost_ret (v := .tuple #[.agg #[.slice none 0 0], .int .i64 0, .int .i64 2]) (by simp [results, Tryz.results22, go_sem, k9]) rfl ?_
    show WhP _ _ _ _
    rw [HE.out]
    exact ⟨_, rfl, hX.2.1, hX.2.2⟩
  · have lI : ¬ 1024 < (ts.length : Int) := by omega
    have HL := hid hl
    have HR := hid (ry_start HTk.out (by omega))
    clear hl
    go_enter Tryz.func22, Tryz.ntmps22
    go_upto_region 1 with fail
    rw [HW.out]
    go_wp2_with (first
      | (go_at_call 47; refine (rcondS 16 (Nat.le_refl _) _ _ _ _ _ (fun h17 => by omega) HR.out).mono ?_; rintro e w3 ⟨hk, z3, E3, j3, sv3, qs3, rfl, hz3, hq, ha, hc⟩; have HR3 := hid hq; have HC3 := hid hc; have HB3 := hid (((Below.refl w1.heap.size w1).alloc (Nat.le_refl _) (.cells #[.slice p ts.length cap, .int .i64 0, .slice none 0 0, .int .i64 0, .int .i64 0] 90)).trans (hk.below (by simp) (fun k ht => ht.elim (fun e => by omega) (fun e => by cases e)))); clear hk hq ha hc hz3)
      | (go_at_call 48; refine (rend_any HR3.out).mono ?_; rintro e w4 ⟨v4, rfl, hn, hk⟩; have HB4 := hid (HB3.out.trans (hk.below HB3.out.size (fun k e => by omega))); have HN4 := hid hn; have HX := hid (q_box HZ.out HB0.out hn (HB3.out.trans (hk.below HB3.out.size (fun k e => by omega)))); have kz := block_cell (block_on HZ.out HB4.out); have fz := block_frozen (block_on HZ.out HB4.out); obtain ⟨qs4, ho4, -⟩ := hn; obtain ⟨pv, cv, rfl⟩ := ho4.form; clear hk ho4))
    have k9 := block_cell HX.out.1
    refine bodyPost_ret (v := .tuple #[.agg #[.slice pv qs4.length cv], .int .i64 ((endS ts E3 j3 (qs3.map (·.np))).2.1 : Int), .int .i64 (endS ts E3 j3 (qs3.map (·.np))).2.2]) (by simp [results, Tryz.results22, go_sem, k9]) rfl ?_
    show WhP _ _ _ _
    rw [← end_whole HL.out HC3.out]
    exact ⟨_, rfl, HX.out.2.1, HX.out.2.2⟩
end
end Go.Proofs.YtmpjmimhoikknaaGreatDoor
