/-
  The walk of catchmentlaw04.WireTurned.
-/
import Derived.Test.YtaccindmjaejdaaPR
import Derived.Test.YtaccindmjaejdaaQSizesWalk
import Derived.Test.YtaccindmjaejdaaQTMath
namespace Go.Proofs.Ytaccindmjaejdaa
open Go.RowKit Go.Sort Go.Shelf

theorem ownB_form {B : Nat} {w : World} {v : Value} {xs : List UInt8} (h : OwnB B w v xs) (hne : xs ≠ []) : ∃ g cap, v = .slice (some ⟨g, 0, none⟩) xs.length cap ∧ B ≤ g ∧ xs.length ≤ cap := by
  rcases h.2 with ⟨_, h0⟩ | ⟨g, cap, cur, hv, hg, hblk, hc, hm, _⟩
  · exact absurd (List.eq_nil_of_length_eq_zero h0) hne
  · exact ⟨g, cap, hv, hg, hc⟩
theorem ownB_cell {B g cap l k : Nat} {w : World} {xs : List UInt8} {x : UInt8} (h : OwnB B w (.slice (some ⟨g, 0, none⟩) l cap) xs) (hx : xs[k]? = some x) : w.cell? ⟨g, k, none⟩ = some (.int .u8 (x.toNat : Int)) := by
  have := World.ownsRow.cells h (g := g) rfl k (bc x) (by rw [List.getElem?_map, hx]; rfl)
  rwa [Addr.add_lit, Nat.zero_add] at this
theorem ownB_frozen {B g cap l : Nat} {w : World} {xs : List UInt8} (h : OwnB B w (.slice (some ⟨g, 0, none⟩) l cap) xs) (hl : xs.length = l) (k : Nat) : w.frozen? ⟨g, k, none⟩ = false := by
  subst hl
  exact World.ownsRow.frozenAt h k
theorem ownB_stored {B g cap l : Nat} {w : World} {xs : List UInt8} {y : UInt8} (h : OwnB B w (.slice (some ⟨g, 0, none⟩) l cap) xs) (hl : xs.length = l) (hB : B ≤ w.heap.size) (k : Nat) :
    OwnB B (w.setCell ⟨g, k, none⟩ (.int .u8 (y.toNat : Int))).drew (.slice (some ⟨g, 0, none⟩) l cap) (xs.set k y) ∧ Below B w (w.setCell ⟨g, k, none⟩ (.int .u8 (y.toNat : Int))).drew := by
  subst hl
  have hs := World.ownsRow.stored h k (bc y)
  rw [show (xs.map bc).set k (bc y) = (xs.set k y).map bc by rw [List.map_set]] at hs
  refine ⟨?_, ?_⟩
  · show World.ownsRow _ B 5 1 _ (xs.set k y).length _
    rw [List.length_set]
    exact hs.1.drew
  · exact ((Below.refl B w).grown hs.2 hB (fun j e => h.lt j e)).trans ⟨rfl, rfl, rfl, Nat.le_refl _, fun _ _ => rfl⟩
theorem made2 (w : World) (X : Obj) : OwnB (w.heap.size + 1) ((w.alloc X).alloc (.cells #[] 5)) (.slice (some ⟨w.heap.size + 1, 0, none⟩) 0 0) [] := by
  have := OwnB.made (w.alloc X).heap.size (w.alloc X) (Nat.le_refl _)
  simp only [World.size_alloc] at this; exact this
theorem made2_low {w w' : World} {X Y : Obj} (h : Below (w.heap.size + 1) ((w.alloc X).alloc Y) w') : Below (w.alloc X).heap.size (w.alloc X) w' := by
  have h1 := (Below.refl (w.alloc X).heap.size (w.alloc X)).alloc (Nat.le_refl _) Y
  rw [World.size_alloc] at h1 ⊢
  exact h1.trans h
theorem made2_next {w w8 w9 : World} {X Y : Obj} (h8 : Below (w.alloc X).heap.size (w.alloc X) w8) (h : Below (w.heap.size + 1) (w8.alloc Y) w9) : Below (w.alloc X).heap.size (w.alloc X) w9 := by
  have h1 := h8.alloc h8.size Y
  rw [World.size_alloc] at h1 ⊢
  exact h1.trans h
def wturn (c : Int) : Int := if c < 0 then -(c + 1) else c
theorem wturn_nn (c : Int) : 0 ≤ wturn c := by unfold wturn; split <;> omega
theorem byte_at (t : Int) : t % 256 = ((UInt8.ofNat (t % 256).toNat).toNat : Int) := by
  rw [UInt8.toNat_ofNat']; omega
set_option maxRecDepth 100000 in
set_option maxHeartbeats 4000000 in
theorem wturned_ok {q p : Option Addr} {nc capc n cap el k j am : Nat} {cs : List Cl} {rs' : List Rw} {xe : List UInt8} {bit at_ tb ta : Int} {w : World} (HT : Hid (TabAt w (.agg #[.slice q nc capc, .slice p (min n 200) cap]) cs rs')) (HR : Hid (rs'.length ≤ 200)) (HCAP : Hid (n ≤ cap)) (HCHK : Hid (checkV cs rs' = 0))
    (HXE : Hid (encB cs rs' = xe)) (HXL : Hid (xe.length = el)) (HNE : Hid (xe ≠ [])) (hel : el ≤ 4400000) (hl0 : 0 < el)
    (HDT : Hid (∀ k x, xe[k]? = some x → ∀ j, j < 8 → decS (xe.set k (turned x j)) = none)) (HDC : Hid (decS (xe.take am) = none)) (HDM : Hid (decS (xe ++ [UInt8.ofNat (ta % 256).toNat]) = none))
    (hb0 : -9223372036854775808 ≤ bit) (hb1 : bit ≤ 9223372036854775807) (ha0 : -9223372036854775808 ≤ at_) (ha1 : at_ ≤ 9223372036854775807)
    (hk : k < el) (hj : j < 8) (ham : am < el) (htb0 : 0 ≤ tb) (hta0 : 0 ≤ ta) (hkt : tb / 8 % (el : Int) = k) (hjt : tb % 8 = j) (hat : ta % (el : Int) = am) (htb : wturn bit = tb) (hta : wturn at_ = ta) :
    Calls Try.prog 10 #[.agg #[.slice q nc capc, .slice p n cap], .int .i64 bit, .int .i64 at_] w fun e w' => e = .returned (.bool true) ∧ Below w.heap.size w w' := by
  have HB := hid ((Below.refl w.heap.size w).alloc (Nat.le_refl _) (.cells #[.slice q nc capc, .slice p n cap] 25))
  have KB := hid (alloc_block w (.cells #[.slice q nc capc, .slice p n cap] 25))
  have hle0 : ((el : Int) == 0) = false := by rw [Bool.eq_false_iff]; intro e; have := beq_iff_eq.1 e; omega
  by_cases hbit : bit < 0
  · have hb' : -(bit + 1) = tb := by rw [← htb]; unfold wturn; rw [if_pos hbit]
    by_cases hatn : at_ < 0
    · have ha' : -(at_ + 1) = ta := by rw [← hta]; unfold wturn; rw [if_pos hatn]
      clear htb hta
      go_enter Try.func10, Try.ntmps10
      go_wp2_with (first
        | (go_at_call 20; refine wshown_any.mono ?_; rintro e w1 ⟨rfl, hb1⟩; have HB1 := hid (below_on HB.out hb1); have KB1 := hid (block_on KB.out hb1); have kb1 := block_cell KB1.out; clear hb1)
        | (go_at_call 25; refine (wcut_val HCAP.out).mono ?_; rintro e w2 ⟨rfl, hb2⟩; generalize hm : min n 200 = m at *; have HM := hid hm; have HB2 := hid (below_on HB1.out hb2); have KB2 := hid (block_on KB1.out hb2); have kb2 := block_cell KB2.out; have zb2 := block_frozen KB2.out; clear hb2 kb1 hm)
        | (go_at_call 26; have hst := stored2 (c' := .slice q nc capc) (r' := .slice p m cap) KB2.out HB2.out; generalize World.setCell _ _ _ = W at *; obtain ⟨hkw, hbw⟩ := hst; have HBW := hid hbw; refine (enc_ok (HT.out.on HBW.out) HCHK.out (by have := HR.out; omega)).mono ?_; rintro e w3 ⟨v3, rfl, ho3, hb3⟩; have hx3 := ho3.bat; rw [HXE.out] at hx3; obtain ⟨p3, c3, hv3, hc3, -⟩ := id hx3; rw [HXL.out] at hv3 hc3; subst hv3; have HX3' := hid hx3; have HB3 := hid (below_on HBW.out hb3); clear hb3 ho3 hx3 kb2 zb2 hkw hbw; have M1 : Hid True := trivial)
        | (at_builtin; have FIRST := M1; refine appF_any rfl _ _ rfl rfl (OwnB.made w3.heap.size w3 (Nat.le_refl _)) rfl (BAt.on HX3'.out ((Below.refl _ _).alloc (Nat.le_refl _) _)) (by have := HXL.out; simp; omega) (by simp) ?_; intro v4 w4 hown4 hf4; rw [List.nil_append] at hown4; obtain ⟨g, cq, hv4, hBg, hcq⟩ := ownB_form hown4 HNE.out; rw [HXL.out] at hv4 hcq; subst hv4; have HO4 := hid hown4; have S4 := hid (((Below.refl _ w3).alloc (Nat.le_refl _) (.cells #[] 5)).trans hf4.low); clear hown4 hf4 M1 FIRST))
      rw [hkt]
      obtain ⟨x, hx⟩ : ∃ x, xe[k]? = some x := ⟨xe[k]'(by rw [HXL.out]; exact hk), List.getElem?_eq_getElem _⟩
      have HXK := hid hx
      have hcell : w4.cell? ⟨g, k, none⟩ = some (.int .u8 (x.toNat : Int)) := ownB_cell HO4.out hx
      have hfz : w4.frozen? ⟨g, k, none⟩ = false := ownB_frozen HO4.out HXL.out k
      clear hx
      have hst4 := ownB_stored (y := turned x j) HO4.out HXL.out (by have := S4.out.size; omega) k
      rw [← turned_bits hj] at hst4
      have HST := hid hst4
      clear hst4
      go_region
      have HO5 := hid HST.out.1
      have S5 := hid (S4.out.trans HST.out.2)
      clear hcell hfz HST HO4 S4
      generalize World.drew _ = w5 at *
      have HB5 := hid (below_on HB3.out S5.out)
      have HX5 := hid (HX3'.out.on S5.out)
      have D1 := hid (HDT.out k x HXK.out j hj)
      have M2 : Hid True := trivial
      have htm := hat
      clear HX3' HB3
      go_wp2_with (first
        | (go_at_call 28; have FIRST := M2; refine (dec_none HO5.out.bat D1.out).mono ?_; rintro e w6 ⟨rfl, hb6⟩; have S6 := hid (((hb6.trans ((Below.refl _ w6).alloc (Nat.le_refl _) (.cells #[.slice none 0 0, .slice none 0 0] 25) |>.mono hb6.size)))); have HB6 := hid (below_on HB5.out S6.out); have HX6 := hid (HX5.out.on S6.out); clear hb6 M2 FIRST; have M3 : Hid True := trivial)
        | (go_at_call 28; have FIRST := M3; refine (dec_none (BAt.take HXL.out (Nat.le_of_lt ham) HX6.out) HDC.out).mono ?_; rintro e w7 ⟨rfl, hb7⟩; have S7 := hid (((hb7.trans ((Below.refl _ w7).alloc (Nat.le_refl _) (.cells #[.slice none 0 0, .slice none 0 0] 25) |>.mono hb7.size)))); have HB7 := hid (below_on HB6.out S7.out); have HX7 := hid (HX6.out.on S7.out); clear hb7 M3 FIRST; have M4 : Hid True := trivial)
        | (at_builtin; have FIRST := M4; refine appF_any rfl _ _ rfl rfl (made2 w7 _) rfl (BAt.on HX7.out ((Below.refl _ _).alloc (Nat.le_refl _) _)) (by have := HXL.out; simp; omega) (by simp) ?_; intro v8 w8 hown8 hf8; rw [List.nil_append] at hown8; have HO8 := hid hown8; have S8 := hid (made2_low hf8.low); clear hown8 hf8 M4 FIRST; have M5 : Hid True := trivial)
        | (at_builtin; have FIRST := M5; have hs8 := S8.out.size; rw [World.size_alloc] at hs8; refine appF_any rfl _ _ rfl rfl (HO8.out.alloc _) rfl (bat_one (x := UInt8.ofNat (ta % 256).toNat) (byte_at ta)) (by have := HXL.out; simp; omega) (by rw [World.size_alloc]; omega) ?_; intro v9 w9 hown9 hf9; have HO9 := hid hown9; have S9 := hid (made2_next S8.out hf9.low); clear hown9 hf9 M5 FIRST hs8; have M6 : Hid True := trivial)
        | (go_at_call 28; refine (dec_none HO9.out.bat HDM.out).mono ?_; rintro e wa ⟨rfl, hba⟩; have HBa := hid (below_on (below_on HB7.out S9.out) hba); clear hba))
      go_ret
      exact ⟨rfl, HBa.out.alloc HBa.out.size _⟩
    · have ha' : at_ = ta := by rw [← hta]; unfold wturn; rw [if_neg hatn]
      subst ha'
      clear htb hta
      go_enter Try.func10, Try.ntmps10
      go_wp2_with (first
        | (go_at_call 20; refine wshown_any.mono ?_; rintro e w1 ⟨rfl, hb1⟩; have HB1 := hid (below_on HB.out hb1); have KB1 := hid (block_on KB.out hb1); have kb1 := block_cell KB1.out; clear hb1)
        | (go_at_call 25; refine (wcut_val HCAP.out).mono ?_; rintro e w2 ⟨rfl, hb2⟩; generalize hm : min n 200 = m at *; have HM := hid hm; have HB2 := hid (below_on HB1.out hb2); have KB2 := hid (block_on KB1.out hb2); have kb2 := block_cell KB2.out; have zb2 := block_frozen KB2.out; clear hb2 kb1 hm)
        | (go_at_call 26; have hst := stored2 (c' := .slice q nc capc) (r' := .slice p m cap) KB2.out HB2.out; generalize World.setCell _ _ _ = W at *; obtain ⟨hkw, hbw⟩ := hst; have HBW := hid hbw; refine (enc_ok (HT.out.on HBW.out) HCHK.out (by have := HR.out; omega)).mono ?_; rintro e w3 ⟨v3, rfl, ho3, hb3⟩; have hx3 := ho3.bat; rw [HXE.out] at hx3; obtain ⟨p3, c3, hv3, hc3, -⟩ := id hx3; rw [HXL.out] at hv3 hc3; subst hv3; have HX3' := hid hx3; have HB3 := hid (below_on HBW.out hb3); clear hb3 ho3 hx3 kb2 zb2 hkw hbw; have M1 : Hid True := trivial)
        | (at_builtin; have FIRST := M1; refine appF_any rfl _ _ rfl rfl (OwnB.made w3.heap.size w3 (Nat.le_refl _)) rfl (BAt.on HX3'.out ((Below.refl _ _).alloc (Nat.le_refl _) _)) (by have := HXL.out; simp; omega) (by simp) ?_; intro v4 w4 hown4 hf4; rw [List.nil_append] at hown4; obtain ⟨g, cq, hv4, hBg, hcq⟩ := ownB_form hown4 HNE.out; rw [HXL.out] at hv4 hcq; subst hv4; have HO4 := hid hown4; have S4 := hid (((Below.refl _ w3).alloc (Nat.le_refl _) (.cells #[] 5)).trans hf4.low); clear hown4 hf4 M1 FIRST))
      rw [hkt]
      obtain ⟨x, hx⟩ : ∃ x, xe[k]? = some x := ⟨xe[k]'(by rw [HXL.out]; exact hk), List.getElem?_eq_getElem _⟩
      have HXK := hid hx
      have hcell : w4.cell? ⟨g, k, none⟩ = some (.int .u8 (x.toNat : Int)) := ownB_cell HO4.out hx
      have hfz : w4.frozen? ⟨g, k, none⟩ = false := ownB_frozen HO4.out HXL.out k
      clear hx
      have hst4 := ownB_stored (y := turned x j) HO4.out HXL.out (by have := S4.out.size; omega) k
      rw [← turned_bits hj] at hst4
      have HST := hid hst4
      clear hst4
      go_region
      have HO5 := hid HST.out.1
      have S5 := hid (S4.out.trans HST.out.2)
      clear hcell hfz HST HO4 S4
      generalize World.drew _ = w5 at *
      have HB5 := hid (below_on HB3.out S5.out)
      have HX5 := hid (HX3'.out.on S5.out)
      have D1 := hid (HDT.out k x HXK.out j hj)
      have M2 : Hid True := trivial
      have htm := hat
      clear HX3' HB3
      go_wp2_with (first
        | (go_at_call 28; have FIRST := M2; refine (dec_none HO5.out.bat D1.out).mono ?_; rintro e w6 ⟨rfl, hb6⟩; have S6 := hid (((hb6.trans ((Below.refl _ w6).alloc (Nat.le_refl _) (.cells #[.slice none 0 0, .slice none 0 0] 25) |>.mono hb6.size)))); have HB6 := hid (below_on HB5.out S6.out); have HX6 := hid (HX5.out.on S6.out); clear hb6 M2 FIRST; have M3 : Hid True := trivial)
        | (go_at_call 28; have FIRST := M3; refine (dec_none (BAt.take HXL.out (Nat.le_of_lt ham) HX6.out) HDC.out).mono ?_; rintro e w7 ⟨rfl, hb7⟩; have S7 := hid (((hb7.trans ((Below.refl _ w7).alloc (Nat.le_refl _) (.cells #[.slice none 0 0, .slice none 0 0] 25) |>.mono hb7.size)))); have HB7 := hid (below_on HB6.out S7.out); have HX7 := hid (HX6.out.on S7.out); clear hb7 M3 FIRST; have M4 : Hid True := trivial)
        | (at_builtin; have FIRST := M4; refine appF_any rfl _ _ rfl rfl (made2 w7 _) rfl (BAt.on HX7.out ((Below.refl _ _).alloc (Nat.le_refl _) _)) (by have := HXL.out; simp; omega) (by simp) ?_; intro v8 w8 hown8 hf8; rw [List.nil_append] at hown8; have HO8 := hid hown8; have S8 := hid (made2_low hf8.low); clear hown8 hf8 M4 FIRST; have M5 : Hid True := trivial)
        | (at_builtin; have FIRST := M5; have hs8 := S8.out.size; rw [World.size_alloc] at hs8; refine appF_any rfl _ _ rfl rfl (HO8.out.alloc _) rfl (bat_one (x := UInt8.ofNat (at_ % 256).toNat) (byte_at at_)) (by have := HXL.out; simp; omega) (by rw [World.size_alloc]; omega) ?_; intro v9 w9 hown9 hf9; have HO9 := hid hown9; have S9 := hid (made2_next S8.out hf9.low); clear hown9 hf9 M5 FIRST hs8; have M6 : Hid True := trivial)
        | (go_at_call 28; refine (dec_none HO9.out.bat HDM.out).mono ?_; rintro e wa ⟨rfl, hba⟩; have HBa := hid (below_on (below_on HB7.out S9.out) hba); clear hba))
      go_ret
      exact ⟨rfl, HBa.out.alloc HBa.out.size _⟩
  · have hb' : bit = tb := by rw [← htb]; unfold wturn; rw [if_neg hbit]
    subst hb'
    by_cases hatn : at_ < 0
    · have ha' : -(at_ + 1) = ta := by rw [← hta]; unfold wturn; rw [if_pos hatn]
      clear htb hta
      go_enter Try.func10, Try.ntmps10
      go_wp2_with (first
        | (go_at_call 20; refine wshown_any.mono ?_; rintro e w1 ⟨rfl, hb1⟩; have HB1 := hid (below_on HB.out hb1); have KB1 := hid (block_on KB.out hb1); have kb1 := block_cell KB1.out; clear hb1)
        | (go_at_call 25; refine (wcut_val HCAP.out).mono ?_; rintro e w2 ⟨rfl, hb2⟩; generalize hm : min n 200 = m at *; have HM := hid hm; have HB2 := hid (below_on HB1.out hb2); have KB2 := hid (block_on KB1.out hb2); have kb2 := block_cell KB2.out; have zb2 := block_frozen KB2.out; clear hb2 kb1 hm)
        | (go_at_call 26; have hst := stored2 (c' := .slice q nc capc) (r' := .slice p m cap) KB2.out HB2.out; generalize World.setCell _ _ _ = W at *; obtain ⟨hkw, hbw⟩ := hst; have HBW := hid hbw; refine (enc_ok (HT.out.on HBW.out) HCHK.out (by have := HR.out; omega)).mono ?_; rintro e w3 ⟨v3, rfl, ho3, hb3⟩; have hx3 := ho3.bat; rw [HXE.out] at hx3; obtain ⟨p3, c3, hv3, hc3, -⟩ := id hx3; rw [HXL.out] at hv3 hc3; subst hv3; have HX3' := hid hx3; have HB3 := hid (below_on HBW.out hb3); clear hb3 ho3 hx3 kb2 zb2 hkw hbw; have M1 : Hid True := trivial)
        | (at_builtin; have FIRST := M1; refine appF_any rfl _ _ rfl rfl (OwnB.made w3.heap.size w3 (Nat.le_refl _)) rfl (BAt.on HX3'.out ((Below.refl _ _).alloc (Nat.le_refl _) _)) (by have := HXL.out; simp; omega) (by simp) ?_; intro v4 w4 hown4 hf4; rw [List.nil_append] at hown4; obtain ⟨g, cq, hv4, hBg, hcq⟩ := ownB_form hown4 HNE.out; rw [HXL.out] at hv4 hcq; subst hv4; have HO4 := hid hown4; have S4 := hid (((Below.refl _ w3).alloc (Nat.le_refl _) (.cells #[] 5)).trans hf4.low); clear hown4 hf4 M1 FIRST))
      rw [hkt]
      obtain ⟨x, hx⟩ : ∃ x, xe[k]? = some x := ⟨xe[k]'(by rw [HXL.out]; exact hk), List.getElem?_eq_getElem _⟩
      have HXK := hid hx
      have hcell : w4.cell? ⟨g, k, none⟩ = some (.int .u8 (x.toNat : Int)) := ownB_cell HO4.out hx
      have hfz : w4.frozen? ⟨g, k, none⟩ = false := ownB_frozen HO4.out HXL.out k
      clear hx
      have hst4 := ownB_stored (y := turned x j) HO4.out HXL.out (by have := S4.out.size; omega) k
      rw [← turned_bits hj] at hst4
      have HST := hid hst4
      clear hst4
      go_region
      have HO5 := hid HST.out.1
      have S5 := hid (S4.out.trans HST.out.2)
      clear hcell hfz HST HO4 S4
      generalize World.drew _ = w5 at *
      have HB5 := hid (below_on HB3.out S5.out)
      have HX5 := hid (HX3'.out.on S5.out)
      have D1 := hid (HDT.out k x HXK.out j hj)
      have M2 : Hid True := trivial
      have htm := hat
      clear HX3' HB3
      go_wp2_with (first
        | (go_at_call 28; have FIRST := M2; refine (dec_none HO5.out.bat D1.out).mono ?_; rintro e w6 ⟨rfl, hb6⟩; have S6 := hid (((hb6.trans ((Below.refl _ w6).alloc (Nat.le_refl _) (.cells #[.slice none 0 0, .slice none 0 0] 25) |>.mono hb6.size)))); have HB6 := hid (below_on HB5.out S6.out); have HX6 := hid (HX5.out.on S6.out); clear hb6 M2 FIRST; have M3 : Hid True := trivial)
        | (go_at_call 28; have FIRST := M3; refine (dec_none (BAt.take HXL.out (Nat.le_of_lt ham) HX6.out) HDC.out).mono ?_; rintro e w7 ⟨rfl, hb7⟩; have S7 := hid (((hb7.trans ((Below.refl _ w7).alloc (Nat.le_refl _) (.cells #[.slice none 0 0, .slice none 0 0] 25) |>.mono hb7.size)))); have HB7 := hid (below_on HB6.out S7.out); have HX7 := hid (HX6.out.on S7.out); clear hb7 M3 FIRST; have M4 : Hid True := trivial)
        | (at_builtin; have FIRST := M4; refine appF_any rfl _ _ rfl rfl (made2 w7 _) rfl (BAt.on HX7.out ((Below.refl _ _).alloc (Nat.le_refl _) _)) (by have := HXL.out; simp; omega) (by simp) ?_; intro v8 w8 hown8 hf8; rw [List.nil_append] at hown8; have HO8 := hid hown8; have S8 := hid (made2_low hf8.low); clear hown8 hf8 M4 FIRST; have M5 : Hid True := trivial)
        | (at_builtin; have FIRST := M5; have hs8 := S8.out.size; rw [World.size_alloc] at hs8; refine appF_any rfl _ _ rfl rfl (HO8.out.alloc _) rfl (bat_one (x := UInt8.ofNat (ta % 256).toNat) (byte_at ta)) (by have := HXL.out; simp; omega) (by rw [World.size_alloc]; omega) ?_; intro v9 w9 hown9 hf9; have HO9 := hid hown9; have S9 := hid (made2_next S8.out hf9.low); clear hown9 hf9 M5 FIRST hs8; have M6 : Hid True := trivial)
        | (go_at_call 28; refine (dec_none HO9.out.bat HDM.out).mono ?_; rintro e wa ⟨rfl, hba⟩; have HBa := hid (below_on (below_on HB7.out S9.out) hba); clear hba))
      go_ret
      exact ⟨rfl, HBa.out.alloc HBa.out.size _⟩
    · have ha' : at_ = ta := by rw [← hta]; unfold wturn; rw [if_neg hatn]
      subst ha'
      clear htb hta
      go_enter Try.func10, Try.ntmps10
      go_wp2_with (first
        | (go_at_call 20; refine wshown_any.mono ?_; rintro e w1 ⟨rfl, hb1⟩; have HB1 := hid (below_on HB.out hb1); have KB1 := hid (block_on KB.out hb1); have kb1 := block_cell KB1.out; clear hb1)
        | (go_at_call 25; refine (wcut_val HCAP.out).mono ?_; rintro e w2 ⟨rfl, hb2⟩; generalize hm : min n 200 = m at *; have HM := hid hm; have HB2 := hid (below_on HB1.out hb2); have KB2 := hid (block_on KB1.out hb2); have kb2 := block_cell KB2.out; have zb2 := block_frozen KB2.out; clear hb2 kb1 hm)
        | (go_at_call 26; have hst := stored2 (c' := .slice q nc capc) (r' := .slice p m cap) KB2.out HB2.out; generalize World.setCell _ _ _ = W at *; obtain ⟨hkw, hbw⟩ := hst; have HBW := hid hbw; refine (enc_ok (HT.out.on HBW.out) HCHK.out (by have := HR.out; omega)).mono ?_; rintro e w3 ⟨v3, rfl, ho3, hb3⟩; have hx3 := ho3.bat; rw [HXE.out] at hx3; obtain ⟨p3, c3, hv3, hc3, -⟩ := id hx3; rw [HXL.out] at hv3 hc3; subst hv3; have HX3' := hid hx3; have HB3 := hid (below_on HBW.out hb3); clear hb3 ho3 hx3 kb2 zb2 hkw hbw; have M1 : Hid True := trivial)
        | (at_builtin; have FIRST := M1; refine appF_any rfl _ _ rfl rfl (OwnB.made w3.heap.size w3 (Nat.le_refl _)) rfl (BAt.on HX3'.out ((Below.refl _ _).alloc (Nat.le_refl _) _)) (by have := HXL.out; simp; omega) (by simp) ?_; intro v4 w4 hown4 hf4; rw [List.nil_append] at hown4; obtain ⟨g, cq, hv4, hBg, hcq⟩ := ownB_form hown4 HNE.out; rw [HXL.out] at hv4 hcq; subst hv4; have HO4 := hid hown4; have S4 := hid (((Below.refl _ w3).alloc (Nat.le_refl _) (.cells #[] 5)).trans hf4.low); clear hown4 hf4 M1 FIRST))
      rw [hkt]
      obtain ⟨x, hx⟩ : ∃ x, xe[k]? = some x := ⟨xe[k]'(by rw [HXL.out]; exact hk), List.getElem?_eq_getElem _⟩
      have HXK := hid hx
      have hcell : w4.cell? ⟨g, k, none⟩ = some (.int .u8 (x.toNat : Int)) := ownB_cell HO4.out hx
      have hfz : w4.frozen? ⟨g, k, none⟩ = false := ownB_frozen HO4.out HXL.out k
      clear hx
      have hst4 := ownB_stored (y := turned x j) HO4.out HXL.out (by have := S4.out.size; omega) k
      rw [← turned_bits hj] at hst4
      have HST := hid hst4
      clear hst4
      go_region
      have HO5 := hid HST.out.1
      have S5 := hid (S4.out.trans HST.out.2)
      clear hcell hfz HST HO4 S4
      generalize World.drew _ = w5 at *
      have HB5 := hid (below_on HB3.out S5.out)
      have HX5 := hid (HX3'.out.on S5.out)
      have D1 := hid (HDT.out k x HXK.out j hj)
      have M2 : Hid True := trivial
      have htm := hat
      clear HX3' HB3
      go_wp2_with (first
        | (go_at_call 28; have FIRST := M2; refine (dec_none HO5.out.bat D1.out).mono ?_; rintro e w6 ⟨rfl, hb6⟩; have S6 := hid (((hb6.trans ((Below.refl _ w6).alloc (Nat.le_refl _) (.cells #[.slice none 0 0, .slice none 0 0] 25) |>.mono hb6.size)))); have HB6 := hid (below_on HB5.out S6.out); have HX6 := hid (HX5.out.on S6.out); clear hb6 M2 FIRST; have M3 : Hid True := trivial)
        | (go_at_call 28; have FIRST := M3; refine (dec_none (BAt.take HXL.out (Nat.le_of_lt ham) HX6.out) HDC.out).mono ?_; rintro e w7 ⟨rfl, hb7⟩; have S7 := hid (((hb7.trans ((Below.refl _ w7).alloc (Nat.le_refl _) (.cells #[.slice none 0 0, .slice none 0 0] 25) |>.mono hb7.size)))); have HB7 := hid (below_on HB6.out S7.out); have HX7 := hid (HX6.out.on S7.out); clear hb7 M3 FIRST; have M4 : Hid True := trivial)
        | (at_builtin; have FIRST := M4; refine appF_any rfl _ _ rfl rfl (made2 w7 _) rfl (BAt.on HX7.out ((Below.refl _ _).alloc (Nat.le_refl _) _)) (by have := HXL.out; simp; omega) (by simp) ?_; intro v8 w8 hown8 hf8; rw [List.nil_append] at hown8; have HO8 := hid hown8; have S8 := hid (made2_low hf8.low); clear hown8 hf8 M4 FIRST; have M5 : Hid True := trivial)
        | (at_builtin; have FIRST := M5; have hs8 := S8.out.size; rw [World.size_alloc] at hs8; refine appF_any rfl _ _ rfl rfl (HO8.out.alloc _) rfl (bat_one (x := UInt8.ofNat (at_ % 256).toNat) (byte_at at_)) (by have := HXL.out; simp; omega) (by rw [World.size_alloc]; omega) ?_; intro v9 w9 hown9 hf9; have HO9 := hid hown9; have S9 := hid (made2_next S8.out hf9.low); clear hown9 hf9 M5 FIRST hs8; have M6 : Hid True := trivial)
        | (go_at_call 28; refine (dec_none HO9.out.bat HDM.out).mono ?_; rintro e wa ⟨rfl, hba⟩; have HBa := hid (below_on (below_on HB7.out S9.out) hba); clear hba))
      go_ret
      exact ⟨rfl, HBa.out.alloc HBa.out.size _⟩
set_option maxRecDepth 100000 in
set_option maxHeartbeats 1000000 in
theorem wturned_any {v : Value} {cs : List Cl} {rs : List Rw} {bit at_ : Int} {w : World} (hT : TabAt w v cs rs) (hbit : -9223372036854775808 ≤ bit ∧ bit ≤ 9223372036854775807) (hat : -9223372036854775808 ≤ at_ ∧ at_ ≤ 9223372036854775807) :
    Calls Try.prog 10 #[v, .int .i64 bit, .int .i64 at_] w fun e w' => e = .returned (.bool true) ∧ Below w.heap.size w w' := by
  obtain ⟨q, nc, capc, p, n, cap, rfl, hcap, hcut⟩ := hT.wcuts
  generalize hrs : rs.take 200 = rs' at hcut
  have hr200 : rs'.length ≤ 200 := by subst hrs; simp; omega
  clear hT hrs
  by_cases hchk : checkV cs rs' = 0
  · have hbl := body_len hchk (by omega)
    have hel := encB_len cs rs'
    have h0 : 0 < (encB cs rs').length := by omega
    have htb0 := wturn_nn bit
    have hta0 := wturn_nn at_
    have m0 := Int.emod_nonneg (wturn bit / 8) (b := ((encB cs rs').length : Int)) (by omega)
    have m1 := Int.emod_lt_of_pos (wturn bit / 8) (b := ((encB cs rs').length : Int)) (by omega)
    have n0 := Int.emod_nonneg (wturn at_) (b := ((encB cs rs').length : Int)) (by omega)
    have n1 := Int.emod_lt_of_pos (wturn at_) (b := ((encB cs rs').length : Int)) (by omega)
    exact wturned_ok (el := (encB cs rs').length) (k := (wturn bit / 8 % ((encB cs rs').length : Int)).toNat) (j := (wturn bit % 8).toNat) (am := (wturn at_ % ((encB cs rs').length : Int)).toNat) (xe := encB cs rs') hcut hr200 hcap hchk rfl rfl (by intro e; rw [e] at h0; simp at h0) (by omega) h0
      (fun k x hx j hj => enc_turned hx (turned_ne hj)) (enc_cut hbl (by omega)) (enc_more hbl) hbit.1 hbit.2 hat.1 hat.2 (by omega) (by omega) (by omega) htb0 hta0 (by omega) (by omega) (by omega) rfl rfl
  · have HT := hid hcut
    have HR := hid hr200
    have HCAP := hid hcap
    have HB := hid ((Below.refl w.heap.size w).alloc (Nat.le_refl _) (.cells #[.slice q nc capc, .slice p n cap] 25))
    have KB := hid (alloc_block w (.cells #[.slice q nc capc, .slice p n cap] 25))
    generalize hz : checkV cs rs' = z at *
    have HZ := hid hz
    have hne : (z != 0) = true := by simpa using hchk
    have HCHK := hid hchk
    clear hz hchk hcut hr200 hcap
    go_enter Try.func10, Try.ntmps10
    go_wp2_with (first
      | (go_at_call 20; refine wshown_any.mono ?_; rintro e w1 ⟨rfl, hb1⟩; have HB1 := hid (below_on HB.out hb1); have KB1 := hid (block_on KB.out hb1); have kb1 := block_cell KB1.out; clear hb1)
      | (go_at_call 25; refine (wcut_val HCAP.out).mono ?_; rintro e w2 ⟨rfl, hb2⟩; generalize hm : min n 200 = m at *; have HM := hid hm; have HB2 := hid (below_on HB1.out hb2); have KB2 := hid (block_on KB1.out hb2); have kb2 := block_cell KB2.out; have zb2 := block_frozen KB2.out; clear hb2 kb1 hm)
      | (go_at_call 26; have hst := stored2 (c' := .slice q nc capc) (r' := .slice p m cap) KB2.out HB2.out; generalize World.setCell _ _ _ = W at *; obtain ⟨hkw, hbw⟩ := hst; have HBW := hid hbw; refine (enc_err (HT.out.on HBW.out) (by rw [HZ.out]; exact HCHK.out)).mono ?_; rintro e w3 ⟨rfl, hb3⟩; rw [HZ.out]; have HB3 := hid (below_on HBW.out hb3); clear hb3 kb2 zb2 hkw hbw))
    go_ret
    exact ⟨rfl, HB3.out⟩
end Go.Proofs.Ytaccindmjaejdaa
