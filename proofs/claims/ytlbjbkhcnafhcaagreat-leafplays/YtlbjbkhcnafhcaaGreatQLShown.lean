/-
  What the statements' shown returns: the document's examples.
-/
import Derived.Test.YtlbjbkhcnafhcaaGreatQLLoad
namespace Go.Proofs.YtlbjbkhcnafhcaaGreat
open Go.RowKit Go.Sort Go.Shelf Go.Maps

def bA : ByteArray := ⟨#[97]⟩
def bB : ByteArray := ⟨#[98]⟩
def bC : ByteArray := ⟨#[99]⟩
def pA : Pt := ptL bA (by decide) 5 7
def pA8 : Pt := ptL bA (by decide) 5 8
def pB : Pt := ptL bB (by decide) 3 1
def pC : Pt := ptL bC (by decide) 1 1
def rA : Rw := [vT 5, vStr bA (by decide), vT 7]
def rB : Rw := [vT 3, vStr bB (by decide), vT 1]
theorem eN1 : wrN [scLoad] 2 [] pA = true := by decide +kernel
theorem eE1 : wrE [scLoad] 2 [] pA = 0 := by decide +kernel
theorem eL1 : wrL [scLoad] 2 [] pA = [pA] := by unfold wrL; rw [eN1]; rfl
theorem eN2 : wrN [scLoad] 2 [pA] pA8 = false := by decide +kernel
theorem eE2 : wrE [scLoad] 2 [pA] pA8 = 0 := by decide +kernel
theorem eL2 : wrL [scLoad] 2 [pA] pA8 = [pA] := by unfold wrL; rw [eN2]; rfl
theorem eN3 : wrN [scLoad] 2 [pA] pB = true := by decide +kernel
theorem eE3 : wrE [scLoad] 2 [pA] pB = 0 := by decide +kernel
theorem eL3 : wrL [scLoad] 2 [pA] pB = [pA, pB] := by unfold wrL; rw [eN3]; rfl
theorem eN4 : wrN [scLoad] 2 [pA, pB] pC = false := by decide +kernel
theorem eE4 : wrE [scLoad] 2 [pA, pB] pC = 80 := by decide +kernel
theorem eL4 : wrL [scLoad] 2 [pA, pB] pC = [pA, pB] := by unfold wrL; rw [eN4]; rfl
theorem at_load : atS [scLoad] nLoad = ((0 : Nat) : Int) := by decide +kernel
theorem scE_load : scE [scLoad] nLoad = 0 := by decide +kernel
theorem scC_load : scC [scLoad] nLoad = [cTime, cHost, cNum] := by unfold scC; rw [if_neg (by rw [at_load]; omega), at_load]; rfl
theorem scR_load (pts : List Pt) (a z : Int) : scR [scLoad] pts nLoad a z = sortR (scanR pts nLoad a z) := by unfold scR; rw [if_neg (by rw [at_load]; omega)]
theorem eR1 : scR [scLoad] [pA, pB] nLoad 0 9 = [rB, rA] := by
  rw [scR_load]
  refine (sortR_of ?_ ?_).symm
  · exact List.Pairwise.cons (fun x hx => by simp at hx; subst hx; decide +kernel) (List.pairwise_singleton _ _)
  · have e : scanR [pA, pB] nLoad 0 9 = [rA, rB] := by decide +kernel
    rw [e]; exact List.Perm.swap _ _ _
theorem eR2 : scR [scLoad] [pA, pB] nLoad 4 9 = [rA] := by
  rw [scR_load]
  have e : scanR [pA, pB] nLoad 4 9 = [rA] := by decide +kernel
  rw [e]; exact (sortR_of (List.pairwise_singleton _ _) (List.Perm.refl _)).symm
theorem eX : scE [scLoad] ⟨#[120]⟩ = 50 := by decide +kernel
theorem eXC : scC [scLoad] ⟨#[120]⟩ = [] := by unfold scC; rw [if_pos (by decide +kernel)]
theorem eXR (pts : List Pt) (a z : Int) : scR [scLoad] pts ⟨#[120]⟩ a z = [] := by unfold scR; rw [if_pos (by decide +kernel)]
theorem rng_all2 {p : Pt} (h : p ∈ [pA, pB, pA8, pC]) : ∀ v ∈ p.ks, SN.Rng v := by
  simp at h
  rcases h with rfl | rfl | rfl | rfl <;> exact rng_load _ _ _
theorem sz2 : ∀ p ∈ [pA, pB], List.length p.ks ≤ 4 ∧ List.length p.vs ≤ 4 := by
  intro p h
  simp at h
  rcases h with rfl | rfl <;> decide +kernel
theorem nil_sch (w : World) : SchsAt w (.slice none 0 0) [] := ⟨[], SlAt.nil _ _ _ _, rfl, fun j h s h1 _ => by simp at h1⟩
theorem check_nil : checkS [] = 50 := by decide +kernel
theorem point_is {w : World} {s : ByteArray} {hs : s.size ≤ maxLen} {t n : Int} {p : Pt} (hp : ptL s hs t n = p) : Calls Tryz.prog 18 #[.string s, .int .i64 t, .int .i64 n] w fun e w' => ∃ pk ck pv cv, e = .returned (.agg #[.string nLoad, .slice pk 1 ck, .int .i64 t, .slice pv 1 cv]) ∧ PtT any w' (.agg #[.string nLoad, .slice pk 1 ck, .int .i64 t, .slice pv 1 cv]) p ∧ Below w.heap.size w w' := by
  subst hp
  refine (point_any hs).mono ?_
  rintro e w' ⟨u, rfl, ⟨pk, ck, pv, cv, rfl, h1, h2⟩, hb⟩
  exact ⟨pk, ck, pv, cv, rfl, ⟨pk, ck, pv, cv, rfl, h1, h2⟩, hb⟩
/- What is read of a table of two rows, and of one. -/
theorem tab_two {Q : Nat → Prop} {w : World} {v : Value} {cs : List Cl} (h : TabIn Q w v cs [rB, rA]) : ∃ pc nc cc g o cr g1 o1 c1 g2 o2 c2, v = .agg #[.slice pc nc cc, .slice (some ⟨g, o, none⟩) 2 cr] ∧ 2 ≤ cr ∧ w.cell? ⟨g, o, none⟩ = some (.slice (some ⟨g1, o1, none⟩) 3 c1) ∧ w.cell? ⟨g, o + 1, none⟩ = some (.slice (some ⟨g2, o2, none⟩) 3 c2) ∧ 3 ≤ c1 ∧ 3 ≤ c2 ∧ w.cell? ⟨g1, o1 + 1, none⟩ = some (.int .i64 3) ∧ w.cell? ⟨g2, o2 + 22 + 1, none⟩ = some (.int .i64 7) := by
  obtain ⟨c, r, rfl, ⟨pc, cc, rfl, -⟩, hs, ⟨p, cr, hr, hcr, -, hx⟩, hl, hh⟩ := h
  have hl2 : hs.length = 2 := hl
  obtain ⟨g, o, rfl, -, hcell⟩ := hx (by intro e; rw [e] at hl2; simp at hl2)
  match hs, hl2 with
  | [a, b], _ =>
    obtain ⟨p1, c1, rfl, hc1, -, hx1⟩ := hh 0 a rB rfl rfl
    obtain ⟨p2, c2, rfl, hc2, -, hx2⟩ := hh 1 b rA rfl rfl
    obtain ⟨g1, o1, rfl, -, hcell1⟩ := hx1 (by decide)
    obtain ⟨g2, o2, rfl, -, hcell2⟩ := hx2 (by decide)
    have d1 := hcell 0 _ rfl 0 _ rfl
    have d2 := hcell 1 _ rfl 0 _ rfl
    have d3 := hcell1 0 _ rfl 1 _ rfl
    have d4 := hcell2 2 _ rfl 1 _ rfl
    exact ⟨pc, _, cc, g, o, cr, g1, o1, c1, g2, o2, c2, by rw [hr]; rfl, hcr.1, by simpa [rB] using d1, by simpa [rA] using d2, hc1.1, hc2.1, by simpa [vT] using d3, by simpa [vT] using d4⟩
theorem tab_len {Q : Nat → Prop} {w : World} {v : Value} {cs : List Cl} {rs : List Rw} (h : TabIn Q w v cs rs) : ∃ pc nc cc pr cr, v = .agg #[.slice pc nc cc, .slice pr rs.length cr] := by
  obtain ⟨c, r, rfl, ⟨pc, cc, rfl, -⟩, hs, ⟨p, cr, rfl, -⟩, hl, -⟩ := h
  exact ⟨pc, _, cc, p, cr, by rw [hl]⟩
set_option maxRecDepth 100000 in
set_option maxHeartbeats 4000000 in
theorem shown_any {w : World} : Calls Tryz.prog 7 #[] w fun e w' => e = .returned (.bool true) ∧ Below w.heap.size w w' := by
  go_enter Tryz.func7, Tryz.ntmps7
  go_upto_region 2 with (first
    | (go_at_call 17; refine load_any.mono ?_; rintro e w1 ⟨v1, rfl, hs1, hb1⟩; have HS1 := hid hs1; have HB1 := hid hb1; clear hs1 hb1)
    | (go_at_call 8; refine (new_v (room := 2) HS1.out check_load HB1.out).mono ?_; rintro e w2 ⟨b, x0, rfl, hl2, hb2, -⟩; have HL2 := hid hl2; clear hl2 hb2))
  go_upto_region 5 with (go_at_call 8; refine (lnew_bad (room := 2) (nil_sch _) check_nil).mono ?_; rintro e w3 ⟨rfl, hb3⟩; have HL3 := hid (HL2.out.on hb3); clear hb3)
  go_upto_region 6 with (first
    | (go_at_call 18; refine (point_is (p := pA) (hs := by decide) rfl).mono ?_; rintro e w4 ⟨pk4, ck4, pv4, cv4, rfl, hp4, hb4⟩; have HP4 := hid hp4; have HL4 := hid (HL3.out.on hb4); clear hp4 hb4)
    | (go_at_call 11; refine (write_v HL4.out (HL4.out.pt HP4.out) check_load (by decide) (rng_all2 (by simp)) eN1 eE1 eL1).mono ?_; rintro e w5 ⟨rfl, x5, hl5, -, -⟩; have HL5 := hid hl5; clear hl5))
  go_upto_region 7 with (first
    | (go_at_call 18; refine (point_is (p := pA8) (hs := by decide) rfl).mono ?_; rintro e w6 ⟨pk6, ck6, pv6, cv6, rfl, hp6, hb6⟩; have HP6 := hid hp6; have HL6 := hid (HL5.out.on hb6); clear hp6 hb6)
    | (go_at_call 11; refine (write_v HL6.out (HL6.out.pt HP6.out) check_load (by decide) (rng_all2 (by simp)) eN2 eE2 eL2).mono ?_; rintro e w7 ⟨rfl, x7, hl7, -, -⟩; have HL7 := hid hl7; clear hl7))
  go_upto_region 8 with (first
    | (go_at_call 18; refine (point_is (p := pB) (hs := by decide) rfl).mono ?_; rintro e w8 ⟨pk8, ck8, pv8, cv8, rfl, hp8, hb8⟩; have HP8 := hid hp8; have HL8 := hid (HL7.out.on hb8); clear hp8 hb8)
    | (go_at_call 11; refine (write_v HL8.out (HL8.out.pt HP8.out) check_load (by decide) (rng_all2 (by simp)) eN3 eE3 eL3).mono ?_; rintro e w9 ⟨rfl, x9, hl9, -, -⟩; have HL9 := hid hl9; clear hl9))
  go_upto_region 9 with (first
    | (go_at_call 18; refine (point_is (p := pC) (hs := by decide) rfl).mono ?_; rintro e w10 ⟨pk10, ck10, pv10, cv10, rfl, hp10, hb10⟩; have HP10 := hid hp10; have HL10 := hid (HL9.out.on hb10); clear hp10 hb10)
    | (go_at_call 11; refine (write_v HL10.out (HL10.out.pt HP10.out) check_load (by decide) (rng_all2 (by simp)) eN4 eE4 eL4).mono ?_; rintro e w11 ⟨rfl, x11, hl11, -, -⟩; have HL11 := hid hl11; clear hl11))
  go_upto_region 10 with (go_at_call 13; refine (scan_v (nm := nLoad) (a := 0) (z := 9) HL11.out check_load (by decide) sz2 scE_load scC_load eR1).mono ?_; rintro e w12 ⟨v12, rfl, ht12, hb12⟩; obtain ⟨pc, nc, cc, g, o, cr, g1, o1, c1, g2, o2, c2, rfl, hcr, q1, q2, hc1, hc2, q3, q4⟩ := tab_two ht12; have HL12 := hid (HL11.out.on hb12); clear ht12 hb12)
  have hb13 := (Below.refl w12.heap.size w12).alloc (Nat.le_refl _) (.cells #[.slice pc nc cc, .slice (some ⟨g, o, none⟩) 2 cr] 44)
  have K13 := hid (alloc_block w12 (.cells #[.slice pc nc cc, .slice (some ⟨g, o, none⟩) 2 cr] 44))
  have HL13 := hid (HL12.out.on hb13)
  have Q1 := hid (SN.cell_onB q1 hb13)
  have Q2 := hid (SN.cell_onB q2 hb13)
  have Q3 := hid (SN.cell_onB q3 hb13)
  have Q4 := hid (SN.cell_onB q4 hb13)
  clear hb13 q1 q2 q3 q4
  generalize w12.heap.size = BX at *
  generalize (w12.alloc (.cells #[.slice pc nc cc, .slice (some ⟨g, o, none⟩) 2 cr] 44)) = W13 at *
  go_upto_region 11 with (go_at_call 13; refine (scan_v (nm := nLoad) (a := 4) (z := 9) HL13.out check_load (by decide) sz2 scE_load scC_load eR2).mono ?_; rintro e w14 ⟨v14, rfl, ht14, hb14⟩; obtain ⟨pc14, nc14, cc14, pr14, cr14, rfl⟩ := tab_len ht14; have HL14 := hid (HL13.out.on hb14); have HB14 := hid hb14; clear ht14 hb14)
  have hb15 := (HB14.out.alloc HB14.out.size (.cells #[.slice pc14 nc14 cc14, .slice pr14 [rA].length cr14] 44))
  have K15 := hid (alloc_block w14 (.cells #[.slice pc14 nc14 cc14, .slice pr14 [rA].length cr14] 44))
  have HL15 := hid (HL14.out.on ((Below.refl _ _).alloc (Nat.le_refl _) (.cells #[.slice pc14 nc14 cc14, .slice pr14 [rA].length cr14] 44)))
  have R1 := hid (SN.cell_onB Q1.out hb15)
  have R2 := hid (SN.cell_onB Q2.out hb15)
  have R3 := hid (SN.cell_onB Q3.out hb15)
  have R4 := hid (SN.cell_onB Q4.out hb15)
  have K135 := hid (block_on K13.out hb15)
  clear hb15 Q1 Q2 Q3 Q4
  generalize w14.heap.size = BY at *
  simp only [List.length_cons, List.length_nil, Nat.zero_add] at *
  generalize (w14.alloc (.cells #[.slice pc14 nc14 cc14, .slice pr14 1 cr14] 44)) = W15 at *
  have HPt : Hid (∀ W, Lv w W b [scLoad] 2 x11 [pA, pB] → Calls Tryz.prog 16 #[dp b] W fun e w' => e = .returned (.int .i64 2) ∧ w' = W) := fun W h => points_v h rfl
  go_wp2_with (first
    | (go_at_call 13; refine (scan_v (nm := ⟨#[120]⟩) (a := 0) (z := 9) HL15.out check_load (by decide) sz2 eX eXC (eXR _ _ _)).mono ?_; rintro e w16 ⟨v16, rfl, ht16, hb16⟩; obtain ⟨pc16, nc16, cc16, pr16, cr16, rfl⟩ := tab_len ht16; have hb17 := hb16.alloc hb16.size (.cells #[.slice pc16 nc16 cc16, .slice pr16 0 cr16] 44); have HL17 := hid (HL15.out.on hb17); have s1 := SN.cell_onB R1.out hb17; have s2 := SN.cell_onB R2.out hb17; have s3 := SN.cell_onB R3.out hb17; have s4 := SN.cell_onB R4.out hb17; have s5 := block_cell (block_on K135.out hb17); have s6 := block_cell (block_on K15.out hb17); clear ht16 hb16 hb17)
    | (go_at_call 16; refine (HPt.out _ HL17.out).mono ?_; rintro e w18 ⟨rfl, rfl⟩))
  go_ret
  exact ⟨rfl, HL17.out.bel⟩
theorem shown_is {w : World} : Calls Tryz.prog 7 #[] w fun e w' => e = .returned (.bool true) ∧ Below w.heap.size w w' := shown_any
end Go.Proofs.YtlbjbkhcnafhcaaGreat
