/-
  The walk of catchmentlaw04.WireTables.
-/
import Derived.Test.YtaccindmjaejdaaPR
import Derived.Test.YtaccindmjaejdaaQApartWalk
import Derived.Test.YtaccindmjaejdaaQSizesWalk
namespace Go.Proofs.Ytaccindmjaejdaa
open Go.RowKit Go.Sort Go.Shelf

theorem wsame_self (cs : List Cl) (rs : List Rw) : wsame cs rs cs rs = true := by simp [wsame]
set_option maxRecDepth 100000 in
set_option maxHeartbeats 4000000 in
theorem wtables_any {v vb : Value} {cs : List Cl} {rs : List Rw} {xs : List UInt8} {w : World} (hT : TabAt w v cs rs) (hRn : RngT rs) (hX : BAt w vb xs) : Calls Try.prog 9 #[v, vb] w fun e w' => e = .returned (.bool true) ∧ Below w.heap.size w w' := by
  obtain ⟨q, nc, capc, p, n, cap, rfl, hcap, hcut⟩ := hT.wcuts
  have hR' := hRn.take 200
  generalize hrs : rs.take 200 = rs' at hcut hR'
  have hr200 : rs'.length ≤ 200 := by subst hrs; simp; omega
  have HT := hid hcut
  have HR := hid hr200
  have HCAP := hid hcap
  have HRN := hid hR'
  have HXB := hid hX
  obtain ⟨pb, cb, rfl, -⟩ := hX
  clear hT hcut hrs hr200 hRn hR'
  have HB := hid ((Below.refl w.heap.size w).alloc (Nat.le_refl _) (.cells #[.slice q nc capc, .slice p n cap] 25))
  have KB := hid (alloc_block w (.cells #[.slice q nc capc, .slice p n cap] 25))
  have M1 : Hid True := trivial
  by_cases hchk : checkV cs rs' = 0
  · have HDE := hid (decS_encB hchk (by have := HR.out; omega) HRN.out)
    cases hd : decS xs with
    | none =>
      have HDB := hid hd
      clear hd
      go_enter Try.func9, Try.ntmps9
      go_wp2_with (first
        | (go_at_call 20; refine wshown_any.mono ?_; rintro e w1 ⟨rfl, hb1⟩; have HB1 := hid (below_on HB.out hb1); have KB1 := hid (block_on KB.out hb1); have kb1 := block_cell KB1.out; clear hb1)
        | (go_at_call 25; refine (wcut_val HCAP.out).mono ?_; rintro e w2 ⟨rfl, hb2⟩; generalize hm : min n 200 = m at *; have HM := hid hm; have HB2 := hid (below_on HB1.out hb2); have KB2 := hid (block_on KB1.out hb2); have kb2 := block_cell KB2.out; have zb2 := block_frozen KB2.out; clear hb2 kb1 hm)
        | (go_at_call 26; have FIRST := M1; have hst := stored2 (c' := .slice q nc capc) (r' := .slice p m cap) KB2.out HB2.out; generalize World.setCell _ _ _ = W at *; obtain ⟨hkw, hbw⟩ := hst; have KW := hid hkw; have HBW := hid hbw; refine (enc_ok (HT.out.on HBW.out) hchk (by have := HR.out; omega)).mono ?_; rintro e w3 ⟨v3, rfl, ho3, hb3⟩; have HX3 := hid ho3.bat; obtain ⟨p3, c3, rfl⟩ := ho3.form; have KW3 := hid (block_on KW.out hb3); have HB3 := hid (below_on HBW.out hb3); clear hb3 ho3 kb2 zb2 hkw hbw M1 FIRST; have M2 : Hid True := trivial)
        | (go_at_call 28; have FIRST := M2; refine (dec_some HX3.out HDE.out).mono ?_; rintro e w4 ⟨v4, rfl, hT4, hb4⟩; have HT4 := hid (hT4.on ((Below.refl _ w4).alloc (Nat.le_refl _) (.cells #[.slice none 0 0, .slice none 0 0] 25))); have HB4 := hid (below_on HB3.out hb4); have KW4 := hid (block_on KW3.out hb4); have kw4 := block_cell KW4.out; have l4 := lt_of_block KW4.out; obtain ⟨c4, r4, hv4, hc4, hs4, hr4, -⟩ := id hT4; subst hv4; have HTW4 := hid hT4; obtain ⟨pc4, cc4, rfl, -⟩ := hc4; obtain ⟨pr4, cr4, rfl, -⟩ := hr4; clear hT4 hb4 M2 FIRST; have M3 : Hid True := trivial)
        | (go_at_call 17; refine (wrsame_is (HT.out.on (HB4.out.trans ((Below.refl _ w4).alloc (Nat.le_refl _) _ |>.mono HB4.out.size))) (HTW4.out.on ((Below.refl _ w4).alloc (Nat.le_refl _) _)) (wsame_self _ _)).mono ?_; rintro e w5 ⟨rfl, hb5⟩; have HB5 := hid (HB4.out.trans ((below_n1 hb5).mono HB4.out.size)); clear hb5 kw4)
        | (go_at_call 28; have FIRST := M3; refine (dec_none (HXB.out.on HB5.out) HDB.out).mono ?_; rintro e w6 ⟨rfl, hb6⟩; have HB6 := hid (below_on HB5.out hb6); clear hb6 M3 FIRST))
      go_ret
      exact ⟨rfl, HB6.out.alloc HB6.out.size _⟩
    | some tq =>
      obtain ⟨ds, qs⟩ := tq
      obtain ⟨b1, b2, -, b4⟩ := decS_back hd
      have HDB := hid hd
      have HCK := hid b1
      have HLN := hid b2
      have HEQ := hid b4
      clear hd b1 b2 b4
      go_enter Try.func9, Try.ntmps9
      go_wp2_with (first
        | (go_at_call 20; refine wshown_any.mono ?_; rintro e w1 ⟨rfl, hb1⟩; have HB1 := hid (below_on HB.out hb1); have KB1 := hid (block_on KB.out hb1); have kb1 := block_cell KB1.out; clear hb1)
        | (go_at_call 25; refine (wcut_val HCAP.out).mono ?_; rintro e w2 ⟨rfl, hb2⟩; generalize hm : min n 200 = m at *; have HM := hid hm; have HB2 := hid (below_on HB1.out hb2); have KB2 := hid (block_on KB1.out hb2); have kb2 := block_cell KB2.out; have zb2 := block_frozen KB2.out; clear hb2 kb1 hm)
        | (go_at_call 26; have FIRST := M1; have hst := stored2 (c' := .slice q nc capc) (r' := .slice p m cap) KB2.out HB2.out; generalize World.setCell _ _ _ = W at *; obtain ⟨hkw, hbw⟩ := hst; have KW := hid hkw; have HBW := hid hbw; refine (enc_ok (HT.out.on HBW.out) hchk (by have := HR.out; omega)).mono ?_; rintro e w3 ⟨v3, rfl, ho3, hb3⟩; have HX3 := hid ho3.bat; obtain ⟨p3, c3, rfl⟩ := ho3.form; have KW3 := hid (block_on KW.out hb3); have HB3 := hid (below_on HBW.out hb3); clear hb3 ho3 kb2 zb2 hkw hbw M1 FIRST; have M2 : Hid True := trivial)
        | (go_at_call 28; have FIRST := M2; refine (dec_some HX3.out HDE.out).mono ?_; rintro e w4 ⟨v4, rfl, hT4, hb4⟩; have HT4 := hid (hT4.on ((Below.refl _ w4).alloc (Nat.le_refl _) (.cells #[.slice none 0 0, .slice none 0 0] 25))); have HB4 := hid (below_on HB3.out hb4); have KW4 := hid (block_on KW3.out hb4); have kw4 := block_cell KW4.out; have l4 := lt_of_block KW4.out; obtain ⟨c4, r4, hv4, hc4, hs4, hr4, -⟩ := id hT4; subst hv4; have HTW4 := hid hT4; obtain ⟨pc4, cc4, rfl, -⟩ := hc4; obtain ⟨pr4, cr4, rfl, -⟩ := hr4; clear hT4 hb4 M2 FIRST; have M3 : Hid True := trivial)
        | (go_at_call 17; refine (wrsame_is (HT.out.on (HB4.out.trans ((Below.refl _ w4).alloc (Nat.le_refl _) _ |>.mono HB4.out.size))) (HTW4.out.on ((Below.refl _ w4).alloc (Nat.le_refl _) _)) (wsame_self _ _)).mono ?_; rintro e w5 ⟨rfl, hb5⟩; have HB5 := hid (HB4.out.trans ((below_n1 hb5).mono HB4.out.size)); clear hb5 kw4)
        | (go_at_call 28; have FIRST := M3; refine (dec_some (HXB.out.on HB5.out) HDB.out).mono ?_; rintro e w6 ⟨v6, rfl, hT6, hb6⟩; have HB6 := hid (below_on HB5.out hb6); obtain ⟨c6, r6, hv6, hc6, hs6, hr6, -⟩ := id hT6; subst hv6; have HTW6 := hid hT6; obtain ⟨pc6, cc6, rfl, -⟩ := hc6; obtain ⟨pr6, cr6, rfl, -⟩ := hr6; clear hT6 hb6 M3 FIRST; have M4 : Hid True := trivial)
        | (go_at_call 26; have FIRST := M4; refine (enc_ok (HTW6.out.on ((Below.refl _ w6).alloc (Nat.le_refl _) _)) HCK.out HLN.out).mono ?_; rintro e w7 ⟨v7, rfl, ho7, hb7⟩; rw [HEQ.out] at ho7; have S7 := below_n1 hb7; have HB7 := hid (below_on HB6.out S7); obtain ⟨p7, c7, rfl⟩ := ho7.form; have k7 := conv_bat ho7.bat; have kx := conv_bat (HXB.out.on HB7.out); clear ho7 hb7 S7 M4 FIRST))
      go_ret
      exact ⟨rfl, HB7.out⟩
  · generalize hz : checkV cs rs' = z at *
    have HZ := hid hz
    have hne : (z == 0) = false := by rw [Bool.eq_false_iff]; intro e; exact hchk (beq_iff_eq.1 e)
    have HCHK := hid hchk
    clear hz hchk
    cases hd : decS xs with
    | none =>
      have HDB := hid hd
      clear hd
      go_enter Try.func9, Try.ntmps9
      go_wp2_with (first
        | (go_at_call 20; refine wshown_any.mono ?_; rintro e w1 ⟨rfl, hb1⟩; have HB1 := hid (below_on HB.out hb1); have KB1 := hid (block_on KB.out hb1); have kb1 := block_cell KB1.out; clear hb1)
        | (go_at_call 25; refine (wcut_val HCAP.out).mono ?_; rintro e w2 ⟨rfl, hb2⟩; generalize hm : min n 200 = m at *; have HM := hid hm; have HB2 := hid (below_on HB1.out hb2); have KB2 := hid (block_on KB1.out hb2); have kb2 := block_cell KB2.out; have zb2 := block_frozen KB2.out; clear hb2 kb1 hm)
        | (go_at_call 26; have FIRST := M1; have hst := stored2 (c' := .slice q nc capc) (r' := .slice p m cap) KB2.out HB2.out; generalize World.setCell _ _ _ = W at *; obtain ⟨hkw, hbw⟩ := hst; have KW := hid hkw; have HBW := hid hbw; refine (enc_err (HT.out.on HBW.out) (by rw [HZ.out]; exact HCHK.out)).mono ?_; rintro e w3 ⟨rfl, hb3⟩; rw [HZ.out]; have HB3 := hid (below_on HBW.out hb3); clear hb3 kb2 zb2 hkw hbw M1 FIRST)
        | (go_at_call 28; refine (dec_none (HXB.out.on HB3.out) HDB.out).mono ?_; rintro e w6 ⟨rfl, hb6⟩; have HB6 := hid (below_on HB3.out hb6); clear hb6))
      go_ret
      exact ⟨rfl, HB6.out.alloc HB6.out.size _⟩
    | some tq =>
      obtain ⟨ds, qs⟩ := tq
      obtain ⟨b1, b2, -, b4⟩ := decS_back hd
      have HDB := hid hd
      have HCK := hid b1
      have HLN := hid b2
      have HEQ := hid b4
      clear hd b1 b2 b4
      go_enter Try.func9, Try.ntmps9
      go_wp2_with (first
        | (go_at_call 20; refine wshown_any.mono ?_; rintro e w1 ⟨rfl, hb1⟩; have HB1 := hid (below_on HB.out hb1); have KB1 := hid (block_on KB.out hb1); have kb1 := block_cell KB1.out; clear hb1)
        | (go_at_call 25; refine (wcut_val HCAP.out).mono ?_; rintro e w2 ⟨rfl, hb2⟩; generalize hm : min n 200 = m at *; have HM := hid hm; have HB2 := hid (below_on HB1.out hb2); have KB2 := hid (block_on KB1.out hb2); have kb2 := block_cell KB2.out; have zb2 := block_frozen KB2.out; clear hb2 kb1 hm)
        | (go_at_call 26; have FIRST := M1; have hst := stored2 (c' := .slice q nc capc) (r' := .slice p m cap) KB2.out HB2.out; generalize World.setCell _ _ _ = W at *; obtain ⟨hkw, hbw⟩ := hst; have KW := hid hkw; have HBW := hid hbw; refine (enc_err (HT.out.on HBW.out) (by rw [HZ.out]; exact HCHK.out)).mono ?_; rintro e w3 ⟨rfl, hb3⟩; rw [HZ.out]; have HB3 := hid (below_on HBW.out hb3); clear hb3 kb2 zb2 hkw hbw M1 FIRST)
        | (go_at_call 28; refine (dec_some (HXB.out.on HB3.out) HDB.out).mono ?_; rintro e w6 ⟨v6, rfl, hT6, hb6⟩; have HB6 := hid (below_on HB3.out hb6); obtain ⟨c6, r6, hv6, hc6, hs6, hr6, -⟩ := id hT6; subst hv6; have HTW6 := hid hT6; obtain ⟨pc6, cc6, rfl, -⟩ := hc6; obtain ⟨pr6, cr6, rfl, -⟩ := hr6; clear hT6 hb6; have M4 : Hid True := trivial)
        | (go_at_call 26; have FIRST := M4; refine (enc_ok (HTW6.out.on ((Below.refl _ w6).alloc (Nat.le_refl _) _)) HCK.out HLN.out).mono ?_; rintro e w7 ⟨v7, rfl, ho7, hb7⟩; rw [HEQ.out] at ho7; have S7 := below_n1 hb7; have HB7 := hid (below_on HB6.out S7); obtain ⟨p7, c7, rfl⟩ := ho7.form; have k7 := conv_bat ho7.bat; have kx := conv_bat (HXB.out.on HB7.out); clear ho7 hb7 S7 M4 FIRST))
      go_ret
      exact ⟨rfl, HB7.out⟩
end Go.Proofs.Ytaccindmjaejdaa
