/-
  The reference's step: where.
  The reference's step: keep, align.
  The reference's step: top, and what is none.
  The reference's step: what is none, and group.
-/
import Derived.Test.YtmpjmimhoikknaaGreatDoorK34
namespace Go.Proofs.YtmpjmimhoikknaaGreatDoor
open Go.RowKit Go.Joins

section
variable {B : Nat} {ts : List Tp} {w w' : World} {rb : Nat} {tv sv : Value} {E : Int} {o i : Nat} {qs : List Nd}
theorem where_fin {c : PN} {d : Option PN} {rows j3 j9 : Nat} {ns ns9 : List Np} {qs3 : List Nd} {z3 z9 E3 E9 : Int} (hn : ∀ m, m < 0 → isW ts i (stepW.getD m []) = false) (hy : isW ts i (stepW.getD 0 []) = true) (h3 : Cm2 (lf 0 (i + 1) (c (i + 1) ns)) z3 (qs3.map (·.np)) j3 E3) (h9 : Cm2 (lf E3 j3 (.ok (qs3.length, qs3.map (·.np) ++ [{ n0 with kind := 2, l := [(rows : Int), z3] }]) j3)) z9 ns9 j9 E9) : Cm2 ((stepB ts c d rows i ns).and stepK) z9 ns9 j9 E9 := by
  have e : (stepB ts c d rows i ns).and stepK = (c (i + 1) ns).and fun r j => .ok (r.2.length, r.2 ++ [{ n0 with kind := 2, l := [(rows : Int), (r.1 : Int)] }]) j := by
    unfold stepB; rw [step_k (by decide) hn hy]
    show ((c (i + 1) ns).and _).and stepK = _
    rw [and_assoc']; rfl
  rw [e]
  rcases h3 with ⟨h, hn⟩ | ⟨b, rfl, h, rfl⟩
  · unfold lf at h h9; rw [if_pos rfl] at h; rw [if_neg hn] at h9
    rw [h]; exact h9
  · unfold lf at h h9; rw [if_pos rfl] at h h9
    rw [h]; simpa [Rs.and] using h9
set_option maxRecDepth 100000 in
set_option maxHeartbeats 4000000 in
theorem rstep_where {c : PN} {d : Option PN} {rows : Nat} (hr : rows < 2000) (hO : ¬ 17 ≤ o) (hc : PNy 47 B ts rb tv o c) (hg : GoN ts c) (h : Ry B ts w rb tv sv 0 o i qs) (hn : ∀ m, m < 0 → isW ts i (stepW.getD m []) = false) (hy : isW ts i (stepW.getD 0 []) = true) : Calls Tryz.prog 117 #[dp rb, .int .i64 (rows : Int)] w (Y2 B ts rb tv sv o w ((stepB ts c d rows i (qs.map (·.np))).and stepK)) := by
  have HCn := hid hc
  have HG := hid hg
  have HO := hid hO
  have HN := hid hn
  have HQL := hid h.ql
  have HLt := hid h.lt
  have htl := h.tl
  have hf1 := fld1
  have hf2 := fld2
  have HR0 := hid h
  have HRw : Hid ((0 : Int) ≤ rows ∧ (rows : Int) < 2000) := ⟨by omega, by omega⟩
  have HY := hid hy
  generalize hT : (stepB ts c d rows i (qs.map (·.np))).and stepK = T at *
  have HTt := hid hT
  clear h hT hn hr hy hc hg hO
  go_enter Tryz.func117, Tryz.ntmps117
  go_upto_region 5 with (first
    | (refine store_nd (q := (nam1 w { n0 with l := [(rows : Int)] })) rfl _ _ rfl rfl rfl (nd_all rfl rfl rfl) (zNd_at w (rows : Int)) rfl ?_; intro w2 h2 k2; have HB0 := hid (Bm.start1 HR0.out h2 k2); clear h2 k2)
    | (go_at_call 82; refine (rsees_yes HB0.out.h.r (x := stepW.getD 0 []) HY.out).mono ?_; rintro e wy ⟨rfl, hq, hk⟩; have HBy := hid (HB0.out.y1 hk hq); have cy := block_cell HBy.out.h.b 0; have zy := block_frozen HBy.out.h.b 0; have HBz := hid (HBy.out.set1 (q' := nam1 w { n0 with kind := 2, l := [(rows : Int)] }) 0 (.int .i64 2) (by kernel_rfl) (fun h => h.same rfl rfl rfl rfl rfl rfl)); clear hq hk))
  clear cy zy
  generalize w.heap.size + 1 = nb at *
  have HB2 := HBz
  clear HBz HBy
  generalize wy.setCell ⟨nb, 0, none⟩ (.int .i64 2) = W2 at *
  have HB2d := hid (HB2.out.on (Below.refl _ _).drew)
  have c2 : W2.drew.cell? ⟨nb, 16, none⟩ = some (.slice (some ⟨w.heap.size, 0, none⟩) 1 1) := block_cell HB2d.out.h.b 16
  go_region_law (first
    | (refine step_app2 (B := B) (lb := w.heap.size) (r := (rows : Int)) (z := z3) rfl (.tmp 16) (.tmp 19) rfl rfl rfl (HB3.out.on ((Below.refl _ _).alloc (Nat.le_refl _) (.cells #[.int .i64 z3] 3))).d.l (block_cell (alloc_block w3 (.cells #[.int .i64 z3] 3)) 0) (Nat.le_trans HB3.out.h.r.B_le (by simp)) ?_; intro v5 w5 ho hb; have HB5 := hid ((HB3.out.on ((Below.refl _ _).alloc (Nat.le_refl _) (.cells #[.int .i64 z3] 3))).on hb); have c5 : w5.cell? ⟨nb, 16, none⟩ = some (.slice (some ⟨w.heap.size, 0, none⟩) 1 1) := block_cell HB5.out.h.b 16; have z5 := block_frozen HB5.out.h.b 16; have HB6 := hid (HB5.out.set1 (q' := (⟨{ n0 with kind := 2, l := [(rows : Int), z3] }, v5, .slice none 0 0, .slice none 0 0⟩ : Nd)) 16 v5 (by kernel_rfl) (fun h => ⟨ho, h.n, h.g⟩)); obtain ⟨p5, q5, rfl⟩ := ho.form; clear c3 c4 ho hb)
    | (refine step_call1 (v := dp rb) rfl (.tmp 17) 88 rfl rfl enters_rcond ?_; refine (HCn.out _ _ _ _ _ (fun h17 => absurd h17 HO.out) HB2d.out.h.r).mono ?_; rintro e w3 ⟨hk, z3, E3, j3, sv3, qs3, rfl, hz3, hq, ha, hc⟩; refine ⟨_, rfl, ?_⟩; have HB3 := hid (HB2d.out.y2 hk ha hq); have HC3 := hid hc; have c3 : w3.cell? ⟨nb, 16, none⟩ = some (.slice (some ⟨w.heap.size, 0, none⟩) 1 1) := block_cell HB3.out.h.b 16; have c4 : (w3.alloc (.cells #[.int .i64 z3] 3)).cell? ⟨nb, 16, none⟩ = some (.slice (some ⟨w.heap.size, 0, none⟩) 1 1) := block_cell (HB3.out.on ((Below.refl _ _).alloc (Nat.le_refl _) (.cells #[.int .i64 z3] 3))).h.b 16; clear hk hq hc ha hz3))
  all_goals
    (go_wp2_with (first
      | (refine load_node (q := (⟨{ n0 with kind := 2, l := [(rows : Int), z3] }, .slice p5 2 q5, .slice none 0 0, .slice none 0 0⟩ : Nd)) rfl _ rfl rfl HB6.out.h.b ?_)
      | (go_at_call 83; refine (rlay_any HB6.out.h.r HB6.out.d (fun e => part_len' HG.out HC3.out e HQL.out)).mono ?_; rintro e w9 ⟨hk, z9, E9, j9, sv9, qs9, rfl, hz9, hq, ha, hc⟩; have HB9 := hid (HB6.out.y2 hk ha hq); have HC9 := hid hc; have HZ9 := hid hz9; clear hk hq hc ha hz9))
     go_ret
     refine ⟨HB9.out.h.k, z9, E9, j9, sv9, qs9, rfl, HZ9.out, HB9.out.h.r, HB9.out.h.a, ?_⟩
     rw [← HTt.out]
     exact where_fin HN.out HY.out HC3.out (by have := HC9.out; simpa using this))
end
end Go.Proofs.YtmpjmimhoikknaaGreatDoor
namespace Go.Proofs.YtmpjmimhoikknaaGreatDoor
open Go.RowKit Go.Joins

theorem list_len {α : Type} {ts : List Tp} {one : Nat → Rs α} {i j : Nat} {E E' : Int} {l : List α} (hg : Go1 ts 1 one) (h : Cm (lf E i (listS ts one i)) l j E') (hE : E' = 0) : i + 1 ≤ j := by
  rcases h with ⟨-, h⟩ | ⟨h, -⟩
  · exact absurd hE h
  · unfold lf at h
    split at h
    · exact (list_go hg _ _ _ h).1
    · cases h
section
variable {B : Nat} {ts : List Tp} {w w' : World} {rb : Nat} {tv sv : Value} {E : Int} {o i : Nat} {qs : List Nd}
theorem keep_fin {c : PN} {d : Option PN} {rows j9 : Nat} {ns ns9 : List Np} {z9 E9 : Int} {j3 : Nat} {E3 : Int} {l : List (List UInt8)} (hn : ∀ m, m < 1 → isW ts i (stepW.getD m []) = false) (hy : isW ts i (stepW.getD 1 []) = true) (h3 : Cm (lf 0 (i + 1) (listS ts (nameS ts) (i + 1))) l j3 E3) (h9 : Cm2 (lf E3 j3 (.ok (ns.length, ns ++ [{ laidN 3 rows with names := l }]) j3)) z9 ns9 j9 E9) : Cm2 ((stepB ts c d rows i ns).and stepK) z9 ns9 j9 E9 := by
  have e : (stepB ts c d rows i ns).and stepK = (listS ts (nameS ts) (i + 1)).and fun x j => .ok (ns.length, ns ++ [(fun l => { laidN 3 rows with names := l }) x]) j := by
    unfold stepB; rw [step_k (by decide) hn hy]
    show ((listS ts (nameS ts) (i + 1)).and _).and stepK = _
    rw [and_assoc']; rfl
  rw [e]
  exact cm_fin (g := (fun l => { laidN 3 rows with names := l })) (cm0 h3) h9
set_option maxRecDepth 100000 in
set_option maxHeartbeats 4000000 in
theorem rstep_keep {c : PN} {d : Option PN} {rows : Nat} (hr : rows < 2000) (h : Ry B ts w rb tv sv 0 o i qs) (hn : ∀ m, m < 1 → isW ts i (stepW.getD m []) = false) (hy : isW ts i (stepW.getD 1 []) = true) : Calls Tryz.prog 117 #[dp rb, .int .i64 (rows : Int)] w (Y2 B ts rb tv sv o w ((stepB ts c d rows i (qs.map (·.np))).and stepK)) := by
  have HN := hid hn
  have HQL := hid h.ql
  have HLt := hid h.lt
  have htl := h.tl
  have hf1 := fld1
  have hf2 := fld2
  have HR0 := hid h
  have HRw : Hid ((0 : Int) ≤ rows ∧ (rows : Int) < 2000) := ⟨by omega, by omega⟩
  have M0 : Hid True := trivial
  have HY := hid hy
  generalize hT : (stepB ts c d rows i (qs.map (·.np))).and stepK = T at *
  have HTt := hid hT
  clear h hT hn hr hy
  go_enter Tryz.func117, Tryz.ntmps117
  go_upto_region 33 with (first
    | (refine store_nd (q := (nam1 w { n0 with l := [(rows : Int)] })) rfl _ _ rfl rfl rfl (nd_all rfl rfl rfl) (zNd_at w (rows : Int)) rfl ?_; intro w2 h2 k2; have HB0 := hid (Bm.start1 HR0.out h2 k2); clear h2 k2)
    | (go_at_call 82; have FIRST := M0; refine (rsees_no HB0.out.h.r (x := stepW.getD 0 []) (HN.out 0 (by decide))).mono ?_; rintro e wn0 ⟨rfl, hq, hk⟩; have HB1 := hid (HB0.out.y1 hk hq); clear hq hk M0 FIRST)
    | (go_at_call 82; refine (rsees_yes HB1.out.h.r (x := stepW.getD 1 []) HY.out).mono ?_; rintro e wy ⟨rfl, hq, hk⟩; have HBy := hid (HB1.out.y1 hk hq); have cy := block_cell HBy.out.h.b 0; have zy := block_frozen HBy.out.h.b 0; have HBz := hid (HBy.out.set1 (q' := nam1 w { n0 with kind := 3, l := [(rows : Int)] }) 0 (.int .i64 3) (by kernel_rfl) (fun h => h.same rfl rfl rfl rfl rfl rfl)); clear hq hk)
    | (go_at_call 157; clear cy zy; refine (rnames_any HBz.out.h.r).mono ?_; rintro e w4 ⟨hk, l4, v4, E4, j4, rfl, hv4, hq, hc⟩; have HO4 := hid (hv4.le (Nat.le_trans HBz.out.h.r.B_le (Nat.le_refl _))); have HB4 := hid (HBz.out.y1 hk hq); have HC4 := hid hc; obtain ⟨p4, q4, rfl⟩ := hv4.form; have c4 : w4.cell? ⟨w.heap.size + 1, 17, none⟩ = some (.slice none 0 0) := block_cell HB4.out.h.b 17; have z4 := block_frozen HB4.out.h.b 17; have HB6 := hid (HB4.out.set1 (q' := (⟨{ laidN 3 rows with names := l4 }, one3 w, .slice p4 l4.length q4, .slice none 0 0⟩ : Nd)) 17 (.slice p4 l4.length q4) (by kernel_rfl) (fun h => ⟨h.l, HO4.out, h.g⟩)); clear hk hq hc hv4))
  clear c4 z4
  generalize w.heap.size + 1 = nb at *
  all_goals
    (go_wp2_with (first
      | (refine load_node (q := (⟨{ laidN 3 rows with names := l4 }, one3 w, .slice p4 l4.length q4, .slice none 0 0⟩ : Nd)) rfl _ rfl rfl HB6.out.h.b ?_)
      | (go_at_call 83; refine (rlay_any HB6.out.h.r HB6.out.d (fun e => by have := list_len (name_go ts) HC4.out e; have := HQL.out; omega)).mono ?_; rintro e w9 ⟨hk, z9, E9, j9, sv9, qs9, rfl, hz9, hq, ha, hc⟩; have HB9 := hid (HB6.out.y2 hk ha hq); have HC9 := hid hc; have HZ9 := hid hz9; clear hk hq hc ha hz9))
     go_ret
     refine ⟨HB9.out.h.k, z9, E9, j9, sv9, qs9, rfl, HZ9.out, HB9.out.h.r, HB9.out.h.a, ?_⟩
     rw [← HTt.out]
     exact keep_fin HN.out HY.out HC4.out (by have := HC9.out; simpa using this))
theorem align_fin {c : PN} {d : Option PN} {rows j9 : Nat} {ns ns9 : List Np} {z9 E9 : Int} {j3 : Nat} {E3 : Int} {t3 : Tp} (hn : ∀ m, m < 2 → isW ts i (stepW.getD m []) = false) (hy : isW ts i (stepW.getD 2 []) = true) (h3 : Cm (lf 0 (i + 1) (takeS ts 2 (i + 1))) t3 j3 E3) (h9 : Cm2 (lf E3 j3 (.ok (ns.length, ns ++ [{ laidN 4 rows with n := t3.n }]) j3)) z9 ns9 j9 E9) : Cm2 ((stepB ts c d rows i ns).and stepK) z9 ns9 j9 E9 := by
  have e : (stepB ts c d rows i ns).and stepK = (numS' ts (i + 1)).and fun x j => .ok (ns.length, ns ++ [(fun n => { laidN 4 rows with n := n }) x]) j := by
    unfold stepB; rw [step_k (by decide) hn hy]
    show ((numS' ts (i + 1)).and _).and stepK = _
    rw [and_assoc']; rfl
  rw [e]
  exact cm_fin (g := (fun n => { laidN 4 rows with n := n })) (cm0 h3.nu) h9
set_option maxRecDepth 100000 in
set_option maxHeartbeats 4000000 in
theorem rstep_align {c : PN} {d : Option PN} {rows : Nat} (hr : rows < 2000) (h : Ry B ts w rb tv sv 0 o i qs) (hn : ∀ m, m < 2 → isW ts i (stepW.getD m []) = false) (hy : isW ts i (stepW.getD 2 []) = true) : Calls Tryz.prog 117 #[dp rb, .int .i64 (rows : Int)] w (Y2 B ts rb tv sv o w ((stepB ts c d rows i (qs.map (·.np))).and stepK)) := by
  have HN := hid hn
  have HQL := hid h.ql
  have HLt := hid h.lt
  have htl := h.tl
  have hf1 := fld1
  have hf2 := fld2
  have HR0 := hid h
  have HRw : Hid ((0 : Int) ≤ rows ∧ (rows : Int) < 2000) := ⟨by omega, by omega⟩
  have M0 : Hid True := trivial
  have M1 : Hid True := trivial
  have HY := hid hy
  generalize hT : (stepB ts c d rows i (qs.map (·.np))).and stepK = T at *
  have HTt := hid hT
  clear h hT hn hr hy
  go_enter Tryz.func117, Tryz.ntmps117
  go_upto_region 33 with (first
    | (refine store_nd (q := (nam1 w { n0 with l := [(rows : Int)] })) rfl _ _ rfl rfl rfl (nd_all rfl rfl rfl) (zNd_at w (rows : Int)) rfl ?_; intro w2 h2 k2; have HB0 := hid (Bm.start1 HR0.out h2 k2); clear h2 k2)
    | (go_at_call 82; have FIRST := M0; refine (rsees_no HB0.out.h.r (x := stepW.getD 0 []) (HN.out 0 (by decide))).mono ?_; rintro e wn0 ⟨rfl, hq, hk⟩; have HB1 := hid (HB0.out.y1 hk hq); clear hq hk M0 FIRST)
    | (go_at_call 82; have FIRST := M1; refine (rsees_no HB1.out.h.r (x := stepW.getD 1 []) (HN.out 1 (by decide))).mono ?_; rintro e wn1 ⟨rfl, hq, hk⟩; have HB2 := hid (HB1.out.y1 hk hq); clear hq hk M1 FIRST)
    | (go_at_call 82; refine (rsees_yes HB2.out.h.r (x := stepW.getD 2 []) HY.out).mono ?_; rintro e wy ⟨rfl, hq, hk⟩; have HBy := hid (HB2.out.y1 hk hq); have cy := block_cell HBy.out.h.b 0; have zy := block_frozen HBy.out.h.b 0; have HBz := hid (HBy.out.set1 (q' := nam1 w { n0 with kind := 4, l := [(rows : Int)] }) 0 (.int .i64 4) (by kernel_rfl) (fun h => h.same rfl rfl rfl rfl rfl rfl)); clear hq hk)
    | (go_at_call 116; clear cy zy; refine (rkind_any HBz.out.h.r 2).mono ?_; rintro e w4 ⟨hk, t4, v4, E4, j4, rfl, hv4, hq, hc⟩; obtain rfl := hv4; have HB4 := hid (HBz.out.y1 hk hq); have HC4 := hid hc; have c4 : w4.cell? ⟨w.heap.size + 1, 2, none⟩ = some (.int .i64 0) := block_cell HB4.out.h.b 2; have z4 := block_frozen HB4.out.h.b 2; have HB6 := hid (HB4.out.set1 (q' := nam1 w { laidN 4 rows with n := t4.n }) 2 (.int .i64 t4.n) (by kernel_rfl) (fun h => h.same rfl rfl rfl rfl rfl rfl)); clear hk hq hc))
  clear c4 z4
  generalize w.heap.size + 1 = nb at *
  all_goals
    (go_wp2_with (first
      | (refine load_node (q := nam1 w { laidN 4 rows with n := t4.n }) rfl _ rfl rfl HB6.out.h.b ?_)
      | (go_at_call 83; refine (rlay_any HB6.out.h.r HB6.out.d (fun e => by have := take_ok HC4.out e; have := HQL.out; omega)).mono ?_; rintro e w9 ⟨hk, z9, E9, j9, sv9, qs9, rfl, hz9, hq, ha, hc⟩; have HB9 := hid (HB6.out.y2 hk ha hq); have HC9 := hid hc; have HZ9 := hid hz9; clear hk hq hc ha hz9))
     go_ret
     refine ⟨HB9.out.h.k, z9, E9, j9, sv9, qs9, rfl, HZ9.out, HB9.out.h.r, HB9.out.h.a, ?_⟩
     rw [← HTt.out]
     exact align_fin HN.out HY.out HC4.out (by have := HC9.out; simpa using this))
end
end Go.Proofs.YtmpjmimhoikknaaGreatDoor
namespace Go.Proofs.YtmpjmimhoikknaaGreatDoor
open Go.RowKit Go.Joins

section
variable {B : Nat} {ts : List Tp} {w w' : World} {rb : Nat} {tv sv : Value} {E : Int} {o i : Nat} {qs : List Nd}
theorem top_fin {c : PN} {d : Option PN} {rows j3 j4 j5 j9 : Nat} {ns ns9 : List Np} {z9 E3 E4 E5 E9 : Int} {t3 t5 : Tp} (hn : ∀ m, m < 4 → isW ts i (stepW.getD m []) = false) (hy : isW ts i (stepW.getD 4 []) = true) (h3 : Cm (lf 0 (i + 1) (takeS ts 2 (i + 1))) t3 j3 E3) (h4 : Cm (lf E3 j3 (wantS ts wBy j3)) () j4 E4) (h5 : Cm (lf E4 j4 (takeS ts 1 j4)) t5 j5 E5) (h9 : Cm2 (lf E5 j5 (.ok (ns.length, ns ++ [{ laidN 6 rows with n := t3.n, s := t5.s }]) j5)) z9 ns9 j9 E9) : Cm2 ((stepB ts c d rows i ns).and stepK) z9 ns9 j9 E9 := by
  have e : (stepB ts c d rows i ns).and stepK = ((numS' ts (i + 1)).and fun n j => (wantS ts wBy j).and fun _ j => (nameS ts j).and fun x j => .ok ((n, x) : Int × List UInt8) j).and fun p j => .ok (ns.length, ns ++ [{ laidN 6 rows with n := p.1, s := p.2 }]) j := by
    unfold stepB; rw [step_k (by decide) hn hy]
    show ((numS' ts (i + 1)).and _).and stepK = _
    simp only [and_assoc']; rfl
  rw [e]
  exact cm_fin (g := fun p : Int × List UInt8 => { laidN 6 rows with n := p.1, s := p.2 }) ((cm0 h3.nu).and (h4.lfand (h5.nm.lfand ok_lf))) h9
theorem top_len {j3 j4 j5 : Nat} {E3 E4 E5 : Int} {t3 t5 : Tp} (h3 : Cm (lf 0 (i + 1) (takeS ts 2 (i + 1))) t3 j3 E3) (h4 : Cm (lf E3 j3 (wantS ts wBy j3)) () j4 E4) (h5 : Cm (lf E4 j4 (takeS ts 1 j4)) t5 j5 E5) (hE : E5 = 0) : i + 1 ≤ j5 := by
  obtain ⟨e4, e5, -⟩ := take_ok h5 hE
  rcases h4 with ⟨-, h⟩ | ⟨h, -⟩
  · exact absurd e4 h
  · unfold lf at h
    split at h
    · rename_i e3
      have g := want_go ts _ _ _ _ h
      obtain ⟨-, e6, -⟩ := take_ok h3 e3
      omega
    · cases h
set_option maxRecDepth 100000 in
set_option maxHeartbeats 4000000 in
theorem rstep_top {c : PN} {d : Option PN} {rows : Nat} (hr : rows < 2000) (h : Ry B ts w rb tv sv 0 o i qs) (hn : ∀ m, m < 4 → isW ts i (stepW.getD m []) = false) (hy : isW ts i (stepW.getD 4 []) = true) : Calls Tryz.prog 117 #[dp rb, .int .i64 (rows : Int)] w (Y2 B ts rb tv sv o w ((stepB ts c d rows i (qs.map (·.np))).and stepK)) := by
  have HN := hid hn
  have HQL := hid h.ql
  have HLt := hid h.lt
  have htl := h.tl
  have hf1 := fld1
  have hf2 := fld2
  have HR0 := hid h
  have HRw : Hid ((0 : Int) ≤ rows ∧ (rows : Int) < 2000) := ⟨by omega, by omega⟩
  have M0 : Hid True := trivial
  have M1 : Hid True := trivial
  have M2 : Hid True := trivial
  have M3 : Hid True := trivial
  have HY := hid hy
  generalize hT : (stepB ts c d rows i (qs.map (·.np))).and stepK = T at *
  have HTt := hid hT
  clear h hT hn hr hy
  have N1 : Hid True := trivial
  go_enter Tryz.func117, Tryz.ntmps117
  go_upto_region 33 with (first
    | (refine store_nd (q := (nam1 w { n0 with l := [(rows : Int)] })) rfl _ _ rfl rfl rfl (nd_all rfl rfl rfl) (zNd_at w (rows : Int)) rfl ?_; intro w2 h2 k2; have HB0 := hid (Bm.start1 HR0.out h2 k2); clear h2 k2)
    | (go_at_call 82; have FIRST := M0; refine (rsees_no HB0.out.h.r (x := stepW.getD 0 []) (HN.out 0 (by decide))).mono ?_; rintro e wn0 ⟨rfl, hq, hk⟩; have HB1 := hid (HB0.out.y1 hk hq); clear hq hk M0 FIRST)
    | (go_at_call 82; have FIRST := M1; refine (rsees_no HB1.out.h.r (x := stepW.getD 1 []) (HN.out 1 (by decide))).mono ?_; rintro e wn1 ⟨rfl, hq, hk⟩; have HB2 := hid (HB1.out.y1 hk hq); clear hq hk M1 FIRST)
    | (go_at_call 82; have FIRST := M2; refine (rsees_no HB2.out.h.r (x := stepW.getD 2 []) (HN.out 2 (by decide))).mono ?_; rintro e wn2 ⟨rfl, hq, hk⟩; have HB3 := hid (HB2.out.y1 hk hq); clear hq hk M2 FIRST)
    | (go_at_call 82; have FIRST := M3; refine (rsees_no HB3.out.h.r (x := stepW.getD 3 []) (HN.out 3 (by decide))).mono ?_; rintro e wn3 ⟨rfl, hq, hk⟩; have HB4 := hid (HB3.out.y1 hk hq); clear hq hk M3 FIRST)
    | (go_at_call 82; refine (rsees_yes HB4.out.h.r (x := stepW.getD 4 []) HY.out).mono ?_; rintro e wy ⟨rfl, hq, hk⟩; have HBy := hid (HB4.out.y1 hk hq); have cy := block_cell HBy.out.h.b 0; have zy := block_frozen HBy.out.h.b 0; have HBz := hid (HBy.out.set1 (q' := nam1 w { n0 with kind := 6, l := [(rows : Int)] }) 0 (.int .i64 6) (by kernel_rfl) (fun h => h.same rfl rfl rfl rfl rfl rfl)); clear hq hk)
    | (go_at_call 116; have FIRST := N1; clear cy zy; refine (rkind_any HBz.out.h.r 2).mono ?_; rintro e w4 ⟨hk, t4, v4, E4, j4, rfl, hv4, hq, hc⟩; obtain rfl := hv4; have HB4 := hid (HBz.out.y1 hk hq); have HC4 := hid hc; have c4 : w4.cell? ⟨w.heap.size + 1, 2, none⟩ = some (.int .i64 0) := block_cell HB4.out.h.b 2; have z4 := block_frozen HB4.out.h.b 2; have HB5 := hid (HB4.out.set1 (q' := nam1 w { laidN 6 rows with n := t4.n }) 2 (.int .i64 t4.n) (by kernel_rfl) (fun h => h.same rfl rfl rfl rfl rfl rfl)); clear hk hq hc FIRST N1)
    | (go_at_call 115; clear c4 z4; refine (rwants_any HB5.out.h.r wBy).mono ?_; rintro e w6 ⟨hk, x6, v6, E6, j6, rfl, hv6, hq, hc⟩; obtain rfl := hv6; have HB6 := hid (HB5.out.y1 hk hq); have HC6 := hid hc; clear hk hq hc)
    | (go_at_call 116; refine (rkind_any HB6.out.h.r 1).mono ?_; rintro e w7 ⟨hk, t7, v7, E7, j7, rfl, hv7, hq, hc⟩; obtain rfl := hv7; have HB7 := hid (HB6.out.y1 hk hq); have HC7 := hid hc; have c7 : w7.cell? ⟨w.heap.size + 1, 1, none⟩ = some (.string (St [])) := block_cell HB7.out.h.b 1; have z7 := block_frozen HB7.out.h.b 1; have HB8 := hid (HB7.out.set1 (q' := nam1 w { laidN 6 rows with n := t4.n, s := t7.s }) 1 (.string (St t7.s)) (by kernel_rfl) (fun h => h.same rfl rfl rfl rfl rfl rfl)); clear hk hq hc))
  clear c7 z7
  generalize w.heap.size + 1 = nb at *
  all_goals
    (go_wp2_with (first
      | (refine load_node (q := nam1 w { laidN 6 rows with n := t4.n, s := t7.s }) rfl _ rfl rfl HB8.out.h.b ?_)
      | (go_at_call 83; refine (rlay_any HB8.out.h.r HB8.out.d (fun e => by have := top_len HC4.out HC6.out HC7.out e; have := HQL.out; omega)).mono ?_; rintro e w9 ⟨hk, z9, E9, j9, sv9, qs9, rfl, hz9, hq, ha, hc⟩; have HB9 := hid (HB8.out.y2 hk ha hq); have HC9 := hid hc; have HZ9 := hid hz9; clear hk hq hc ha hz9))
     go_ret
     refine ⟨HB9.out.h.k, z9, E9, j9, sv9, qs9, rfl, HZ9.out, HB9.out.h.r, HB9.out.h.a, ?_⟩
     rw [← HTt.out]
     exact top_fin HN.out HY.out HC4.out HC6.out HC7.out (by have := HC9.out; simpa using this))
end
end Go.Proofs.YtmpjmimhoikknaaGreatDoor
namespace Go.Proofs.YtmpjmimhoikknaaGreatDoor
open Go.RowKit Go.Joins

section
variable {B : Nat} {ts : List Tp} {w w' : World} {rb : Nat} {tv sv : Value} {E : Int} {o i : Nat} {qs : List Nd}
theorem none_fin {c : PN} {d : Option PN} {rows j9 : Nat} {ns ns9 : List Np} {z9 E9 : Int} {x : Nat × List Np} (hn : ∀ m, m < 7 → isW ts i (stepW.getD m []) = false) (h9 : Cm2 (lf 120 i (.ok x i)) z9 ns9 j9 E9) : Cm2 ((stepB ts c d rows i ns).and stepK) z9 ns9 j9 E9 := by
  have e : stepB ts c d rows i ns = .bad i 120 := by unfold stepB oneOfS; rw [idx_nil stepW 0 hn]; rfl
  rw [e]
  unfold lf at h9; rw [if_neg (by decide)] at h9; exact h9
set_option maxRecDepth 100000 in
set_option maxHeartbeats 4000000 in
theorem rstep_none {c : PN} {d : Option PN} {rows : Nat} (hr : rows < 2000) (h : Ry B ts w rb tv sv 0 o i qs) (hn : ∀ m, m < 7 → isW ts i (stepW.getD m []) = false) : Calls Tryz.prog 117 #[dp rb, .int .i64 (rows : Int)] w (Y2 B ts rb tv sv o w ((stepB ts c d rows i (qs.map (·.np))).and stepK)) := by
  have HN := hid hn
  have HQL := hid h.ql
  have HLt := hid h.lt
  have htl := h.tl
  have hf1 := fld1
  have hf2 := fld2
  have HR0 := hid h
  have HRw : Hid ((0 : Int) ≤ rows ∧ (rows : Int) < 2000) := ⟨by omega, by omega⟩
  have M0 : Hid True := trivial
  have M1 : Hid True := trivial
  have M2 : Hid True := trivial
  have M3 : Hid True := trivial
  have M4 : Hid True := trivial
  have M5 : Hid True := trivial
  have M6 : Hid True := trivial
  generalize hT : (stepB ts c d rows i (qs.map (·.np))).and stepK = T at *
  have HTt := hid hT
  clear h hT hn hr
  go_enter Tryz.func117, Tryz.ntmps117
  go_upto_region 33 with (first
    | (refine store_nd (q := (nam1 w { n0 with l := [(rows : Int)] })) rfl _ _ rfl rfl rfl (nd_all rfl rfl rfl) (zNd_at w (rows : Int)) rfl ?_; intro w2 h2 k2; have HB0 := hid (Bm.start1 HR0.out h2 k2); clear h2 k2)
    | (go_at_call 82; have FIRST := M0; refine (rsees_no HB0.out.h.r (x := stepW.getD 0 []) (HN.out 0 (by decide))).mono ?_; rintro e wn0 ⟨rfl, hq, hk⟩; have HB1 := hid (HB0.out.y1 hk hq); clear hq hk M0 FIRST)
    | (go_at_call 82; have FIRST := M1; refine (rsees_no HB1.out.h.r (x := stepW.getD 1 []) (HN.out 1 (by decide))).mono ?_; rintro e wn1 ⟨rfl, hq, hk⟩; have HB2 := hid (HB1.out.y1 hk hq); clear hq hk M1 FIRST)
    | (go_at_call 82; have FIRST := M2; refine (rsees_no HB2.out.h.r (x := stepW.getD 2 []) (HN.out 2 (by decide))).mono ?_; rintro e wn2 ⟨rfl, hq, hk⟩; have HB3 := hid (HB2.out.y1 hk hq); clear hq hk M2 FIRST)
    | (go_at_call 82; have FIRST := M3; refine (rsees_no HB3.out.h.r (x := stepW.getD 3 []) (HN.out 3 (by decide))).mono ?_; rintro e wn3 ⟨rfl, hq, hk⟩; have HB4 := hid (HB3.out.y1 hk hq); clear hq hk M3 FIRST)
    | (go_at_call 82; have FIRST := M4; refine (rsees_no HB4.out.h.r (x := stepW.getD 4 []) (HN.out 4 (by decide))).mono ?_; rintro e wn4 ⟨rfl, hq, hk⟩; have HB5 := hid (HB4.out.y1 hk hq); clear hq hk M4 FIRST)
    | (go_at_call 119; have FIRST := M5; refine (ris_is HB5.out.h.r (x := stepW.getD 5 []) (HN.out 5 (by decide))).mono ?_; rintro e wn5 ⟨rfl, hb⟩; have HB6 := hid (HB5.out.on hb); clear hb M5 FIRST)
    | (go_at_call 119; have FIRST := M6; refine (ris_is HB6.out.h.r (x := stepW.getD 6 []) (HN.out 6 (by decide))).mono ?_; rintro e wn6 ⟨rfl, hb⟩; have HB7 := hid (HB6.out.on hb); clear hb M6 FIRST)
    | (go_at_call 84; refine (rfail_any HB7.out.h.r).mono ?_; rintro e w8 ⟨rfl, hq, hk⟩; have HB8 := hid (HB7.out.y1 hk hq); clear hq hk))
  generalize w.heap.size + 1 = nb at *
  all_goals
    (go_wp2_with (first
      | (refine load_node (q := nam1 w { n0 with l := [(rows : Int)] }) rfl _ rfl rfl HB8.out.h.b ?_)
      | (go_at_call 83; refine (rlay_any HB8.out.h.r HB8.out.d (fun e => absurd e (by decide))).mono ?_; rintro e w9 ⟨hk, z9, E9, j9, sv9, qs9, rfl, hz9, hq, ha, hc⟩; have HB9 := hid (HB8.out.y2 hk ha hq); have HC9 := hid hc; have HZ9 := hid hz9; clear hk hq hc ha hz9))
     go_ret
     refine ⟨HB9.out.h.k, z9, E9, j9, sv9, qs9, rfl, HZ9.out, HB9.out.h.r, HB9.out.h.a, ?_⟩
     rw [← HTt.out]
     exact none_fin HN.out HC9.out)
theorem group0_fin {c : PN} {d : Option PN} {rows j4 j5 j9 : Nat} {ns ns9 : List Np} {z9 E4 E5 E9 : Int} {l : List (Int × List UInt8)} (hn : ∀ m, m < 3 → isW ts i (stepW.getD m []) = false) (hy : isW ts i (stepW.getD 3 []) = true) (hb : isW ts (i + 1) wColon = true) (h4 : Cm (lf 0 (i + 1) (wantS ts wColon (i + 1))) () j4 E4) (h5 : Cm (lf E4 j4 (listS ts (aggS ts) j4)) l j5 E5) (h9 : Cm2 (lf E5 j5 (.ok (ns.length, ns ++ [{ laidN 5 rows with aggs := l }]) j5)) z9 ns9 j9 E9) : Cm2 ((stepB ts c d rows i ns).and stepK) z9 ns9 j9 E9 := by
  have e : (stepB ts c d rows i ns).and stepK = ((wantS ts wColon (i + 1)).and fun _ j => listS ts (aggS ts) j).and fun l j => .ok (ns.length, ns ++ [{ laidN 5 rows with aggs := l }]) j := by
    unfold stepB; rw [step_k (by decide) hn hy]
    show (if isW ts (i + 1) wColon = true then _ else _ : Rs (Np × List Np)).and stepK = _
    rw [if_pos hb]
    unfold wantS; rw [if_pos hb]
    simp only [and_assoc']; rfl
  rw [e]
  exact cm_fin (g := fun l => { laidN 5 rows with aggs := l }) ((cm0 h4).and h5) h9
theorem group1_fin {c : PN} {d : Option PN} {rows j3 j4 j5 j9 : Nat} {ns ns9 : List Np} {z9 E3 E4 E5 E9 : Int} {m : List (List UInt8)} {l : List (Int × List UInt8)} (hn : ∀ m, m < 3 → isW ts i (stepW.getD m []) = false) (hy : isW ts i (stepW.getD 3 []) = true) (hb : isW ts (i + 1) wColon = false) (h3 : Cm (lf 0 (i + 1) (listS ts (nameS ts) (i + 1))) m j3 E3) (h4 : Cm (lf E3 j3 (wantS ts wColon j3)) () j4 E4) (h5 : Cm (lf E4 j4 (listS ts (aggS ts) j4)) l j5 E5) (h9 : Cm2 (lf E5 j5 (.ok (ns.length, ns ++ [{ laidN 5 rows with names := m, aggs := l }]) j5)) z9 ns9 j9 E9) : Cm2 ((stepB ts c d rows i ns).and stepK) z9 ns9 j9 E9 := by
  have e : (stepB ts c d rows i ns).and stepK = ((listS ts (nameS ts) (i + 1)).and fun m j => (wantS ts wColon j).and fun _ j => (listS ts (aggS ts) j).and fun l j => .ok ((m, l) : List (List UInt8) × List (Int × List UInt8)) j).and fun p j => .ok (ns.length, ns ++ [{ laidN 5 rows with names := p.1, aggs := p.2 }]) j := by
    unfold stepB; rw [step_k (by decide) hn hy]
    show (if isW ts (i + 1) wColon = true then _ else _ : Rs (Np × List Np)).and stepK = _
    rw [hb, if_neg (by decide)]
    simp only [and_assoc']; rfl
  rw [e]
  exact cm_fin (g := fun p : List (List UInt8) × List (Int × List UInt8) => { laidN 5 rows with names := p.1, aggs := p.2 }) ((cm0 h3).and (h4.lfand (h5.lfand ok_lf))) h9
set_option maxRecDepth 100000 in
set_option maxHeartbeats 4000000 in
theorem rstep_group0 {c : PN} {d : Option PN} {rows : Nat} (hr : rows < 2000) (h : Ry B ts w rb tv sv 0 o i qs) (hn : ∀ m, m < 3 → isW ts i (stepW.getD m []) = false) (hy : isW ts i (stepW.getD 3 []) = true) (hb : isW ts (i + 1) wColon = true) : Calls Tryz.prog 117 #[dp rb, .int .i64 (rows : Int)] w (Y2 B ts rb tv sv o w ((stepB ts c d rows i (qs.map (·.np))).and stepK)) := by
  have HN := hid hn
  have HQL := hid h.ql
  have HLt := hid h.lt
  have htl := h.tl
  have hf1 := fld1
  have hf2 := fld2
  have HR0 := hid h
  have HRw : Hid ((0 : Int) ≤ rows ∧ (rows : Int) < 2000) := ⟨by omega, by omega⟩
  have M0 : Hid True := trivial
  have M1 : Hid True := trivial
  have M2 : Hid True := trivial
  have HY := hid hy
  generalize hT : (stepB ts c d rows i (qs.map (·.np))).and stepK = T at *
  have HTt := hid hT
  clear h hT hn hr hy
  have HCol : Hid (isE 0 ts (i + 1) wColon = true) := hb
  have HCb := hid hb
  clear hb
  go_enter Tryz.func117, Tryz.ntmps117
  go_upto_region 33 with (first
    | (refine store_nd (q := (nam1 w { n0 with l := [(rows : Int)] })) rfl _ _ rfl rfl rfl (nd_all rfl rfl rfl) (zNd_at w (rows : Int)) rfl ?_; intro w2 h2 k2; have HB0 := hid (Bm.start1 HR0.out h2 k2); clear h2 k2)
    | (go_at_call 82; have FIRST := M0; refine (rsees_no HB0.out.h.r (x := stepW.getD 0 []) (HN.out 0 (by decide))).mono ?_; rintro e wn0 ⟨rfl, hq, hk⟩; have HB1 := hid (HB0.out.y1 hk hq); clear hq hk M0 FIRST)
    | (go_at_call 82; have FIRST := M1; refine (rsees_no HB1.out.h.r (x := stepW.getD 1 []) (HN.out 1 (by decide))).mono ?_; rintro e wn1 ⟨rfl, hq, hk⟩; have HB2 := hid (HB1.out.y1 hk hq); clear hq hk M1 FIRST)
    | (go_at_call 82; have FIRST := M2; refine (rsees_no HB2.out.h.r (x := stepW.getD 2 []) (HN.out 2 (by decide))).mono ?_; rintro e wn2 ⟨rfl, hq, hk⟩; have HB3 := hid (HB2.out.y1 hk hq); clear hq hk M2 FIRST)
    | (go_at_call 82; refine (rsees_yes HB3.out.h.r (x := stepW.getD 3 []) HY.out).mono ?_; rintro e wy ⟨rfl, hq, hk⟩; have HBy := hid (HB3.out.y1 hk hq); have cy := block_cell HBy.out.h.b 0; have zy := block_frozen HBy.out.h.b 0; have HBz := hid (HBy.out.set1 (q' := nam1 w { n0 with kind := 5, l := [(rows : Int)] }) 0 (.int .i64 5) (by kernel_rfl) (fun h => h.same rfl rfl rfl rfl rfl rfl)); clear hq hk)
    | (go_at_call 119; clear cy zy; refine (ris_is HBz.out.h.r (x := wColon) (b := true) HCol.out).mono ?_; rintro e w3 ⟨rfl, hb⟩; have HB3c := hid (HBz.out.on hb); clear hb)
    | (go_at_call 115; refine (rwants_any HB3c.out.h.r wColon).mono ?_; rintro e w6 ⟨hk, x6, v6, E6, j6, rfl, hv6, hq, hc⟩; obtain rfl := hv6; have HB6 := hid (HB3c.out.y1 hk hq); have HC6 := hid hc; clear hk hq hc)
    | (go_at_call 158; refine (raggs_any HB6.out.h.r).mono ?_; rintro e w7 ⟨hk, l7, v7, E7, j7, rfl, hv7, hq, hc⟩; have HO7 := hid (hv7.le HB6.out.h.r.B_le); have HB7 := hid (HB6.out.y1 hk hq); have HC7 := hid hc; obtain ⟨p7, q7, rfl⟩ := hv7.form; have c7 : w7.cell? ⟨w.heap.size + 1, 18, none⟩ = some (.slice none 0 0) := block_cell HB7.out.h.b 18; have z7 := block_frozen HB7.out.h.b 18; have HB8 := hid (HB7.out.set1 (q' := (⟨{ laidN 5 rows with aggs := l7 }, one3 w, .slice none 0 0, .slice p7 l7.length q7⟩ : Nd)) 18 (.slice p7 l7.length q7) (by kernel_rfl) (fun h => ⟨h.l, h.n, HO7.out⟩)); clear hk hq hc hv7))
  clear c7 z7
  generalize w.heap.size + 1 = nb at *
  all_goals
    (go_wp2_with (first
      | (refine load_node (q := (⟨{ laidN 5 rows with aggs := l7 }, one3 w, .slice none 0 0, .slice p7 l7.length q7⟩ : Nd)) rfl _ rfl rfl HB8.out.h.b ?_)
      | (go_at_call 83; refine (rlay_any HB8.out.h.r HB8.out.d (fun e => by have := list_len (agg_go ts) HC7.out e; have := HB6.out.h.r.ql; omega)).mono ?_; rintro e w9 ⟨hk, z9, E9, j9, sv9, qs9, rfl, hz9, hq, ha, hc⟩; have HB9 := hid (HB8.out.y2 hk ha hq); have HC9 := hid hc; have HZ9 := hid hz9; clear hk hq hc ha hz9))
     go_ret
     refine ⟨HB9.out.h.k, z9, E9, j9, sv9, qs9, rfl, HZ9.out, HB9.out.h.r, HB9.out.h.a, ?_⟩
     rw [← HTt.out]
     exact group0_fin HN.out HY.out HCb.out HC6.out HC7.out (by have := HC9.out; simpa using this))
set_option maxRecDepth 100000 in
set_option maxHeartbeats 4000000 in
theorem rstep_group1 {c : PN} {d : Option PN} {rows : Nat} (hr : rows < 2000) (h : Ry B ts w rb tv sv 0 o i qs) (hn : ∀ m, m < 3 → isW ts i (stepW.getD m []) = false) (hy : isW ts i (stepW.getD 3 []) = true) (hb : isW ts (i + 1) wColon = false) : Calls Tryz.prog 117 #[dp rb, .int .i64 (rows : Int)] w (Y2 B ts rb tv sv o w ((stepB ts c d rows i (qs.map (·.np))).and stepK)) := by
  have HN := hid hn
  have HQL := hid h.ql
  have HLt := hid h.lt
  have htl := h.tl
  have hf1 := fld1
  have hf2 := fld2
  have HR0 := hid h
  have HRw : Hid ((0 : Int) ≤ rows ∧ (rows : Int) < 2000) := ⟨by omega, by omega⟩
  have M0 : Hid True := trivial
  have M1 : Hid True := trivial
  have M2 : Hid True := trivial
  have HY := hid hy
  generalize hT : (stepB ts c d rows i (qs.map (·.np))).and stepK = T at *
  have HTt := hid hT
  clear h hT hn hr hy
  have HCol : Hid (isE 0 ts (i + 1) wColon = false) := hb
  have HCb := hid hb
  clear hb
  go_enter Tryz.func117, Tryz.ntmps117
  go_upto_region 33 with (first
    | (refine store_nd (q := (nam1 w { n0 with l := [(rows : Int)] })) rfl _ _ rfl rfl rfl (nd_all rfl rfl rfl) (zNd_at w (rows : Int)) rfl ?_; intro w2 h2 k2; have HB0 := hid (Bm.start1 HR0.out h2 k2); clear h2 k2)
    | (go_at_call 82; have FIRST := M0; refine (rsees_no HB0.out.h.r (x := stepW.getD 0 []) (HN.out 0 (by decide))).mono ?_; rintro e wn0 ⟨rfl, hq, hk⟩; have HB1 := hid (HB0.out.y1 hk hq); clear hq hk M0 FIRST)
    | (go_at_call 82; have FIRST := M1; refine (rsees_no HB1.out.h.r (x := stepW.getD 1 []) (HN.out 1 (by decide))).mono ?_; rintro e wn1 ⟨rfl, hq, hk⟩; have HB2 := hid (HB1.out.y1 hk hq); clear hq hk M1 FIRST)
    | (go_at_call 82; have FIRST := M2; refine (rsees_no HB2.out.h.r (x := stepW.getD 2 []) (HN.out 2 (by decide))).mono ?_; rintro e wn2 ⟨rfl, hq, hk⟩; have HB3 := hid (HB2.out.y1 hk hq); clear hq hk M2 FIRST)
    | (go_at_call 82; refine (rsees_yes HB3.out.h.r (x := stepW.getD 3 []) HY.out).mono ?_; rintro e wy ⟨rfl, hq, hk⟩; have HBy := hid (HB3.out.y1 hk hq); have cy := block_cell HBy.out.h.b 0; have zy := block_frozen HBy.out.h.b 0; have HBz := hid (HBy.out.set1 (q' := nam1 w { n0 with kind := 5, l := [(rows : Int)] }) 0 (.int .i64 5) (by kernel_rfl) (fun h => h.same rfl rfl rfl rfl rfl rfl)); clear hq hk)
    | (go_at_call 119; clear cy zy; refine (ris_is HBz.out.h.r (x := wColon) (b := false) HCol.out).mono ?_; rintro e w3 ⟨rfl, hb⟩; have HB3c := hid (HBz.out.on hb); clear hb)
    | (go_at_call 157; refine (rnames_any HB3c.out.h.r).mono ?_; rintro e w4 ⟨hk, l4, v4, E4, j4, rfl, hv4, hq, hc⟩; have HO4 := hid (hv4.le HB3c.out.h.r.B_le); have HB4 := hid (HB3c.out.y1 hk hq); have HC4 := hid hc; obtain ⟨p4, q4, rfl⟩ := hv4.form; have c4 : w4.cell? ⟨w.heap.size + 1, 17, none⟩ = some (.slice none 0 0) := block_cell HB4.out.h.b 17; have z4 := block_frozen HB4.out.h.b 17; have HB5 := hid (HB4.out.set1 (q' := (⟨{ laidN 5 rows with names := l4 }, one3 w, .slice p4 l4.length q4, .slice none 0 0⟩ : Nd)) 17 (.slice p4 l4.length q4) (by kernel_rfl) (fun h => ⟨h.l, HO4.out, h.g⟩)); clear hk hq hc hv4)
    | (go_at_call 115; clear c4 z4; refine (rwants_any HB5.out.h.r wColon).mono ?_; rintro e w6 ⟨hk, x6, v6, E6, j6, rfl, hv6, hq, hc⟩; obtain rfl := hv6; have HB6 := hid (HB5.out.y1 hk hq); have HC6 := hid hc; clear hk hq hc)
    | (go_at_call 158; refine (raggs_any HB6.out.h.r).mono ?_; rintro e w7 ⟨hk, l7, v7, E7, j7, rfl, hv7, hq, hc⟩; have HO7 := hid (hv7.le HB6.out.h.r.B_le); have HB7 := hid (HB6.out.y1 hk hq); have HC7 := hid hc; obtain ⟨p7, q7, rfl⟩ := hv7.form; have c7 : w7.cell? ⟨w.heap.size + 1, 18, none⟩ = some (.slice none 0 0) := block_cell HB7.out.h.b 18; have z7 := block_frozen HB7.out.h.b 18; have HB8 := hid (HB7.out.set1 (q' := (⟨{ laidN 5 rows with names := l4, aggs := l7 }, one3 w, .slice p4 l4.length q4, .slice p7 l7.length q7⟩ : Nd)) 18 (.slice p7 l7.length q7) (by kernel_rfl) (fun h => ⟨h.l, h.n, HO7.out⟩)); clear hk hq hc hv7))
  clear c7 z7
  generalize w.heap.size + 1 = nb at *
  all_goals
    (go_wp2_with (first
      | (refine load_node (q := (⟨{ laidN 5 rows with names := l4, aggs := l7 }, one3 w, .slice p4 l4.length q4, .slice p7 l7.length q7⟩ : Nd)) rfl _ rfl rfl HB8.out.h.b ?_)
      | (go_at_call 83; refine (rlay_any HB8.out.h.r HB8.out.d (fun e => by have := list_len (agg_go ts) HC7.out e; have := HB6.out.h.r.ql; omega)).mono ?_; rintro e w9 ⟨hk, z9, E9, j9, sv9, qs9, rfl, hz9, hq, ha, hc⟩; have HB9 := hid (HB8.out.y2 hk ha hq); have HC9 := hid hc; have HZ9 := hid hz9; clear hk hq hc ha hz9))
     go_ret
     refine ⟨HB9.out.h.k, z9, E9, j9, sv9, qs9, rfl, HZ9.out, HB9.out.h.r, HB9.out.h.a, ?_⟩
     rw [← HTt.out]
     exact group1_fin HN.out HY.out HCb.out HC4.out HC6.out HC7.out (by have := HC9.out; simpa using this))
end
end Go.Proofs.YtmpjmimhoikknaaGreatDoor
