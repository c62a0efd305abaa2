/-
  The walk of catchmentlaw04.WireApart.
-/
import Derived.Test.YtaccindmjaejdaaQParse
import Derived.Test.YtaccindmjaejdaaPL
import Derived.Test.YtaccindmjaejdaaPF
namespace Go.Proofs.Ytaccindmjaejdaa
open Go.RowKit Go.Sort Go.Shelf

theorem RngT.take {rs : List Rw} (h : RngT rs) (n : Nat) : RngT (rs.take n) := fun r hr => h r (List.mem_of_mem_take hr)
def wsame (cs : List Cl) (rs : List Rw) (ds : List Cl) (qs : List Rw) : Bool := decide (cs = ds ∧ rs = qs)
theorem enc_all {v : Value} {cs : List Cl} {rs : List Rw} {w : World} (hT : TabAt w v cs rs) (hr : rs.length ≤ 4096) :
    Calls Try.prog 26 #[v] w fun e w' => ∃ v', e = .returned (.tuple #[v', .int .i64 (checkV cs rs)]) ∧ Below w.heap.size w w' := by
  by_cases h : checkV cs rs = 0
  · rw [h]; exact (enc_ok hT h hr).mono fun e w' ⟨v', he, _, hb⟩ => ⟨v', he, hb⟩
  · exact (enc_err hT h).mono fun e w' ⟨he, hb⟩ => ⟨_, he, hb⟩
theorem wrsame_is {u v : Value} {cs ds : List Cl} {rs qs : List Rw} {w : World} {c : Bool} (hu : TabAt w u cs rs) (hv : TabAt w v ds qs) (h : wsame cs rs ds qs = c) :
    Calls Try.prog 17 #[u, v] w fun e w' => e = .returned (.bool c) ∧ Below w.heap.size w w' := by rw [← h]; exact rsame_any hu hv
theorem mk_inj {a b : List UInt8} : (decide ((⟨a.toArray⟩ : ByteArray) = ⟨b.toArray⟩)) = decide (a = b) := by
  congr 1
  simp
theorem stored2a {w w2 : World} {b b' : Nat} {c r c' r' x y : Value} (hk : w2.heap[b]? = some (.cells #[c, r] 25)) (hk' : w2.heap[b']? = some (.cells #[x, y] 25)) (hne : b' ≠ b) (hb : Below w.heap.size w w2) (hw : w.heap.size ≤ b) :
    ((w2.setCell ⟨b, 0, none⟩ c').setCell ⟨b, 1, none⟩ r').heap[b]? = some (.cells #[c', r'] 25) ∧ ((w2.setCell ⟨b, 0, none⟩ c').setCell ⟨b, 1, none⟩ r').heap[b']? = some (.cells #[x, y] 25) ∧ Below w.heap.size w ((w2.setCell ⟨b, 0, none⟩ c').setCell ⟨b, 1, none⟩ r') :=
  ⟨set_block (set_block hk _) _, (set_rd _ _ _ _).on ((set_rd _ _ _ _).on hk' hne) hne, (hb.setCell hw _).setCell hw _⟩
theorem below_aa' (w : World) (x y : Obj) : Below w.heap.size w ((w.alloc x).alloc y) := ((Below.refl _ w).alloc (Nat.le_refl _) x).alloc (by simp) y
set_option maxRecDepth 100000 in
set_option maxHeartbeats 2000000 in
theorem wapart_any {v v' : Value} {cs ds : List Cl} {rs qs : List Rw} {w : World} (hT : TabAt w v cs rs) (hU : TabAt w v' ds qs) (hR : RngT rs) (hQ : RngT qs) : Calls Try.prog 11 #[v, v'] w fun e w' => e = .returned (.bool true) ∧ Below w.heap.size w w' := by
  obtain ⟨q, nc, capc, p, n, cap, rfl, hcap, hcut⟩ := hT.wcuts
  obtain ⟨q2, nc2, capc2, p2, n2, cap2, rfl, hcap2, hcut2⟩ := hU.wcuts
  have hR' := hR.take 200
  have hQ' := hQ.take 200
  generalize hrs : rs.take 200 = rs' at hcut hR'
  generalize hqs : qs.take 200 = qs' at hcut2 hQ'
  have hr200 : rs'.length ≤ 200 := by subst hrs; simp; omega
  have hq200 : qs'.length ≤ 200 := by subst hqs; simp; omega
  have HT := hid hcut
  have HU := hid hcut2
  have HR := hid hr200
  have HQ := hid hq200
  have HCAP := hid hcap
  have HCAP2 := hid hcap2
  have HRN := hid hR'
  have HQN := hid hQ'
  clear hT hU hcut hcut2 hrs hqs hr200 hq200 hR hQ hR' hQ'
  have HB := hid (below_aa' w (.cells #[.slice q nc capc, .slice p n cap] 25) (.cells #[.slice q2 nc2 capc2, .slice p2 n2 cap2] 25))
  have KA := hid (blk_up (blk1 w (.cells #[.slice q nc capc, .slice p n cap] 25)) (.cells #[.slice q2 nc2 capc2, .slice p2 n2 cap2] 25))
  have KB := hid (blk2 w (.cells #[.slice q nc capc, .slice p n cap] 25) (.cells #[.slice q2 nc2 capc2, .slice p2 n2 cap2] 25))
  have M1 : Hid True := trivial
  by_cases hchk : checkV cs rs' = 0
  · by_cases hchk2 : checkV ds qs' = 0
    · have hfin : decide (encB cs rs' = encB ds qs') = wsame cs rs' ds qs' := by
        rw [Bool.eq_iff_iff]
        simp only [wsame, decide_eq_true_eq]
        constructor
        · intro h; exact encB_inj hchk (by have := HR.out; omega) HRN.out hchk2 (by have := HQ.out; omega) HQN.out h
        · rintro ⟨rfl, rfl⟩; rfl
      have HFIN := hid hfin
      clear hfin
      generalize hsm : wsame cs rs' ds qs' = sm at *
      have HSM := hid hsm
      clear hsm
      go_enter Try.func11, Try.ntmps11
      go_wp2_with (first
        | (go_at_call 20; refine wshown_any.mono ?_; rintro e w1 ⟨rfl, hb1⟩; have HB1 := hid (below_on HB.out hb1); have KA1 := hid (block_on KA.out hb1); have KB1 := hid (block_on KB.out hb1); have kb1 := block_cell KA1.out; clear hb1)
        | (go_at_call 25; have FIRST := M1; refine (wcut_val HCAP.out).mono ?_; rintro e w2 ⟨rfl, hb2⟩; generalize hm : min n 200 = m at *; have HM := hid hm; have HB2 := hid (below_on HB1.out hb2); have KA2 := hid (block_on KA1.out hb2); have KB2 := hid (block_on KB1.out hb2); have kb2 := block_cell KA2.out; have zb2 := block_frozen KA2.out; have kc2 := block_cell KB2.out; clear hb2 kb1 hm M1 FIRST; have M2 : Hid True := trivial)
        | (go_at_call 25; have FIRST := M2; have hst := stored2a (c' := .slice q nc capc) (r' := .slice p m cap) KA2.out KB2.out (by omega) HB2.out (by omega); generalize World.setCell _ _ _ = W at *; obtain ⟨hka, hkb, hbw⟩ := hst; refine (wcut_val HCAP2.out).mono ?_; rintro e w3 ⟨rfl, hb3⟩; generalize hm : min n2 200 = m2 at *; have HM2 := hid hm; have HB3 := hid (below_on hbw hb3); have KA3 := hid (block_on hka hb3); have KB3 := hid (block_on hkb hb3); have kb3 := block_cell KB3.out; have zb3 := block_frozen KB3.out; have kc3 := block_cell KA3.out; clear hb3 kb2 zb2 kc2 hka hkb hbw hm M2 FIRST; have M3 : Hid True := trivial)
        | (go_at_call 26; have FIRST := M3; have hst := stored2a (c' := .slice q2 nc2 capc2) (r' := .slice p2 m2 cap2) KB3.out KA3.out (by omega) HB3.out (by omega); generalize World.setCell _ _ _ = W2 at *; obtain ⟨hkb, hka, hbw⟩ := hst; refine (enc_ok (HT.out.on hbw) hchk (by have := HR.out; omega)).mono ?_; rintro e w4 ⟨v4, rfl, ho4, hb4⟩; have HO4 := hid ho4.bat; obtain ⟨p4, c4, rfl⟩ := ho4.form; have HB4 := hid (below_on hbw hb4); have KA4 := hid (block_on hka hb4); have KB4 := hid (block_on hkb hb4); have kb4 := block_cell KB4.out; clear ho4 hb4 kb3 zb3 kc3 hka hkb hbw M3 FIRST; have M4 : Hid True := trivial)
        | (go_at_call 26; have FIRST := M4; refine (enc_ok (HU.out.on HB4.out) hchk2 (by have := HQ.out; omega)).mono ?_; rintro e w5 ⟨v5, rfl, ho5, hb5⟩; have HO5 := hid ho5.bat; have HOA := hid (HO4.out.on hb5); obtain ⟨p5, c5, rfl⟩ := ho5.form; have HB5 := hid (below_on HB4.out hb5); have KA5 := hid (block_on KA4.out hb5); have KB5 := hid (block_on KB4.out hb5); have ka5 := block_cell KA5.out; have kb5 := block_cell KB5.out; clear ho5 hb5 kb4 M4 FIRST)
        | (go_at_call 17; refine (wrsame_is (HT.out.on HB5.out) (HU.out.on HB5.out) HSM.out).mono ?_; rintro e w6 ⟨rfl, hb6⟩; have HB6 := hid (below_on HB5.out hb6); have K1 := conv_bat (HOA.out.on hb6); have K2 := conv_bat (HO5.out.on hb6); have hq := mk_inj (a := encB cs rs') (b := encB ds qs'); rw [HFIN.out] at hq; generalize (⟨(encB cs rs').toArray⟩ : ByteArray) = sa at *; generalize (⟨(encB ds qs').toArray⟩ : ByteArray) = sb at *; have hqb := bytes_beq sa sb; rw [hq] at hqb; clear hb6 ka5 kb5 hq))
      go_ret
      exact ⟨rfl, HB6.out⟩
    · generalize hz : checkV cs rs' = z at *
      generalize hz2 : checkV ds qs' = z2 at *
      have HZ := hid hz
      have HZ2 := hid hz2
      have hne2 : (z2 != 0) = true := by simpa using hchk2
      have he1 : (z != 0) = false := by simpa using hchk
      clear hz hz2 hchk hchk2
      go_enter Try.func11, Try.ntmps11
      go_wp2_with (first
        | (go_at_call 20; refine wshown_any.mono ?_; rintro e w1 ⟨rfl, hb1⟩; have HB1 := hid (below_on HB.out hb1); have KA1 := hid (block_on KA.out hb1); have KB1 := hid (block_on KB.out hb1); have kb1 := block_cell KA1.out; clear hb1)
        | (go_at_call 25; have FIRST := M1; refine (wcut_val HCAP.out).mono ?_; rintro e w2 ⟨rfl, hb2⟩; generalize hm : min n 200 = m at *; have HM := hid hm; have HB2 := hid (below_on HB1.out hb2); have KA2 := hid (block_on KA1.out hb2); have KB2 := hid (block_on KB1.out hb2); have kb2 := block_cell KA2.out; have zb2 := block_frozen KA2.out; have kc2 := block_cell KB2.out; clear hb2 kb1 hm M1 FIRST; have M2 : Hid True := trivial)
        | (go_at_call 25; have FIRST := M2; have hst := stored2a (c' := .slice q nc capc) (r' := .slice p m cap) KA2.out KB2.out (by omega) HB2.out (by omega); generalize World.setCell _ _ _ = W at *; obtain ⟨hka, hkb, hbw⟩ := hst; refine (wcut_val HCAP2.out).mono ?_; rintro e w3 ⟨rfl, hb3⟩; generalize hm : min n2 200 = m2 at *; have HM2 := hid hm; have HB3 := hid (below_on hbw hb3); have KA3 := hid (block_on hka hb3); have KB3 := hid (block_on hkb hb3); have kb3 := block_cell KB3.out; have zb3 := block_frozen KB3.out; have kc3 := block_cell KA3.out; clear hb3 kb2 zb2 kc2 hka hkb hbw hm M2 FIRST; have M3 : Hid True := trivial)
        | (go_at_call 26; have FIRST := M3; have hst := stored2a (c' := .slice q2 nc2 capc2) (r' := .slice p2 m2 cap2) KB3.out KA3.out (by omega) HB3.out (by omega); generalize World.setCell _ _ _ = W2 at *; obtain ⟨hkb, hka, hbw⟩ := hst; refine (enc_all (HT.out.on hbw) (by have := HR.out; omega)).mono ?_; rintro e w4 ⟨v4, rfl, hb4⟩; rw [HZ.out]; have HB4 := hid (below_on hbw hb4); have KA4 := hid (block_on hka hb4); have KB4 := hid (block_on hkb hb4); have kb4 := block_cell KB4.out; clear hb4 kb3 zb3 kc3 hka hkb hbw M3 FIRST; have M4 : Hid True := trivial)
        | (go_at_call 26; have FIRST := M4; refine (enc_all (HU.out.on HB4.out) (by have := HQ.out; omega)).mono ?_; rintro e w5 ⟨v5, rfl, hb5⟩; rw [HZ2.out]; have HB5 := hid (below_on HB4.out hb5); clear hb5 kb4 M4 FIRST))
      go_ret
      exact ⟨rfl, HB5.out⟩
  · generalize hz : checkV cs rs' = z at *
    generalize hz2 : checkV ds qs' = z2 at *
    have HZ := hid hz
    have HZ2 := hid hz2
    have hne1 : (z != 0) = true := by simpa using hchk
    clear hz hz2 hchk
    go_enter Try.func11, Try.ntmps11
    go_wp2_with (first
      | (go_at_call 20; refine wshown_any.mono ?_; rintro e w1 ⟨rfl, hb1⟩; have HB1 := hid (below_on HB.out hb1); have KA1 := hid (block_on KA.out hb1); have KB1 := hid (block_on KB.out hb1); have kb1 := block_cell KA1.out; clear hb1)
      | (go_at_call 25; have FIRST := M1; refine (wcut_val HCAP.out).mono ?_; rintro e w2 ⟨rfl, hb2⟩; generalize hm : min n 200 = m at *; have HM := hid hm; have HB2 := hid (below_on HB1.out hb2); have KA2 := hid (block_on KA1.out hb2); have KB2 := hid (block_on KB1.out hb2); have kb2 := block_cell KA2.out; have zb2 := block_frozen KA2.out; have kc2 := block_cell KB2.out; clear hb2 kb1 hm M1 FIRST; have M2 : Hid True := trivial)
      | (go_at_call 25; have FIRST := M2; have hst := stored2a (c' := .slice q nc capc) (r' := .slice p m cap) KA2.out KB2.out (by omega) HB2.out (by omega); generalize World.setCell _ _ _ = W at *; obtain ⟨hka, hkb, hbw⟩ := hst; refine (wcut_val HCAP2.out).mono ?_; rintro e w3 ⟨rfl, hb3⟩; generalize hm : min n2 200 = m2 at *; have HM2 := hid hm; have HB3 := hid (below_on hbw hb3); have KA3 := hid (block_on hka hb3); have KB3 := hid (block_on hkb hb3); have kb3 := block_cell KB3.out; have zb3 := block_frozen KB3.out; have kc3 := block_cell KA3.out; clear hb3 kb2 zb2 kc2 hka hkb hbw hm M2 FIRST; have M3 : Hid True := trivial)
      | (go_at_call 26; have FIRST := M3; have hst := stored2a (c' := .slice q2 nc2 capc2) (r' := .slice p2 m2 cap2) KB3.out KA3.out (by omega) HB3.out (by omega); generalize World.setCell _ _ _ = W2 at *; obtain ⟨hkb, hka, hbw⟩ := hst; refine (enc_all (HT.out.on hbw) (by have := HR.out; omega)).mono ?_; rintro e w4 ⟨v4, rfl, hb4⟩; rw [HZ.out]; have HB4 := hid (below_on hbw hb4); have KA4 := hid (block_on hka hb4); have KB4 := hid (block_on hkb hb4); have kb4 := block_cell KB4.out; clear hb4 kb3 zb3 kc3 hka hkb hbw M3 FIRST; have M4 : Hid True := trivial)
      | (go_at_call 26; have FIRST := M4; refine (enc_all (HU.out.on HB4.out) (by have := HQ.out; omega)).mono ?_; rintro e w5 ⟨v5, rfl, hb5⟩; rw [HZ2.out]; have HB5 := hid (below_on HB4.out hb5); clear hb5 kb4 M4 FIRST))
    go_ret
    exact ⟨rfl, HB5.out⟩
end Go.Proofs.Ytaccindmjaejdaa
