/-
  The walk of catchmentlaw04.WireWrites.
-/
import Derived.Test.YtjfholofgohcjaaPL
import Derived.Test.YtjfholofgohcjaaPY
import Derived.Test.YtjfholofgohcjaaQWCut
namespace Go.Proofs.Ytjfholofgohcjaa
open Go.RowKit Go.Sort Go.Shelf

theorem stored2 {w w2 : World} {c r c' r' : Value} (hk : w2.heap[w.heap.size]? = some (.cells #[c, r] 25)) (hb : Below w.heap.size w w2) :
    ((w2.setCell ⟨w.heap.size, 0, none⟩ c').setCell ⟨w.heap.size, 1, none⟩ r').heap[w.heap.size]? = some (.cells #[c', r'] 25) ∧ Below w.heap.size w ((w2.setCell ⟨w.heap.size, 0, none⟩ c').setCell ⟨w.heap.size, 1, none⟩ r') :=
  ⟨set_block (set_block hk _) _, (hb.setCell (by simp) _).setCell (by simp) _⟩
set_option maxRecDepth 100000 in
set_option maxHeartbeats 2000000 in
theorem wwrites_any {v : Value} {cs : List Cl} {rs : List Rw} {w : World} (hT : TabAt w v cs rs) : Calls Try.prog 6 #[v] w fun e w' => e = .returned (.bool true) ∧ Below w.heap.size w w' := by
  obtain ⟨q, nc, capc, p, n, cap, rfl, hcap, hcut⟩ := hT.wcuts
  generalize hrs : rs.take 200 = rs' at hcut
  have hr200 : rs'.length ≤ 200 := by subst hrs; simp; omega
  have HT := hid hcut
  have HR := hid hr200
  have HCAP := hid hcap
  clear hT hcut hrs hr200
  have HB := hid ((Below.refl w.heap.size w).alloc (Nat.le_refl _) (.cells #[.slice q nc capc, .slice p n cap] 25))
  have KB := hid (alloc_block w (.cells #[.slice q nc capc, .slice p n cap] 25))
  by_cases hchk : checkV cs rs' = 0
  · have HCK := hid hchk
    clear hchk
    go_enter Try.func6, Try.ntmps6
    go_wp2_with (first
      | (go_at_call 20; refine wshown_any.mono ?_; rintro e w1 ⟨rfl, hb1⟩; have HB1 := hid (below_on HB.out hb1); have KB1 := hid (block_on KB.out hb1); have kb1 := block_cell KB1.out; clear hb1)
      | (go_at_call 25; refine (wcut_val HCAP.out).mono ?_; rintro e w2 ⟨rfl, hb2⟩; generalize hm : min n 200 = m at *; have HM := hid hm; have HB2 := hid (below_on HB1.out hb2); have KB2 := hid (block_on KB1.out hb2); have kb2 := block_cell KB2.out; have zb2 := block_frozen KB2.out; clear hb2 kb1 hm)
      | (go_at_call 26; have hst := stored2 (c' := .slice q nc capc) (r' := .slice p m cap) KB2.out HB2.out; generalize World.setCell _ _ _ = W at *; obtain ⟨hkw, hbw⟩ := hst; have KW := hid hkw; have HBW := hid hbw; refine (enc_ok (HT.out.on HBW.out) HCK.out (by have := HR.out; omega)).mono ?_; rintro e w3 ⟨v3, rfl, ho3, hb3⟩; have HO3 := hid ho3.bat; obtain ⟨p3, c3, rfl⟩ := ho3.form; have KW3 := hid (block_on KW.out hb3); have HB3 := hid (below_on HBW.out hb3); have kb3 := block_cell KW3.out; clear hb3 ho3 kb2 zb2 hkw hbw)
      | (go_at_call 27; refine (renc_ok (HT.out.on HB3.out) HCK.out (by have := HR.out; omega)).mono ?_; rintro e w4 ⟨v4, rfl, ho4, hb4⟩; obtain ⟨p4, c4, rfl⟩ := ho4.form; have K1 := conv_bat (HO3.out.on hb4); have K2 := conv_bat ho4.bat; have HB4 := hid (below_on HB3.out hb4); generalize (⟨(encB cs rs').toArray⟩ : ByteArray) = sa at *; clear hb4 ho4 kb3))
    go_ret
    exact ⟨by simp, HB4.out⟩
  · generalize hz : checkV cs rs' = z at *
    have HZ := hid hz
    have HCHK := hid hchk
    clear hz hchk
    go_enter Try.func6, Try.ntmps6
    go_wp2_with (first
      | (go_at_call 20; refine wshown_any.mono ?_; rintro e w1 ⟨rfl, hb1⟩; have HB1 := hid (below_on HB.out hb1); have KB1 := hid (block_on KB.out hb1); have kb1 := block_cell KB1.out; clear hb1)
      | (go_at_call 25; refine (wcut_val HCAP.out).mono ?_; rintro e w2 ⟨rfl, hb2⟩; generalize hm : min n 200 = m at *; have HM := hid hm; have HB2 := hid (below_on HB1.out hb2); have KB2 := hid (block_on KB1.out hb2); have kb2 := block_cell KB2.out; have zb2 := block_frozen KB2.out; clear hb2 kb1 hm)
      | (go_at_call 26; have hst := stored2 (c' := .slice q nc capc) (r' := .slice p m cap) KB2.out HB2.out; generalize World.setCell _ _ _ = W at *; obtain ⟨hkw, hbw⟩ := hst; have KW := hid hkw; have HBW := hid hbw; refine (enc_err (HT.out.on HBW.out) (by rw [HZ.out]; exact HCHK.out)).mono ?_; rintro e w3 ⟨rfl, hb3⟩; rw [HZ.out]; have KW3 := hid (block_on KW.out hb3); have HB3 := hid (below_on HBW.out hb3); have kb3 := block_cell KW3.out; clear hb3 kb2 zb2 hkw hbw)
      | (go_at_call 27; refine (renc_err (HT.out.on HB3.out) (by rw [HZ.out]; exact HCHK.out)).mono ?_; rintro e w4 ⟨rfl, hb4⟩; rw [HZ.out]; have HB4 := hid (below_on HB3.out hb4); have K1 := conv_bat (bat_nil w4); clear hb4 kb3))
    go_ret
    exact ⟨by simp, HB4.out⟩
end Go.Proofs.Ytjfholofgohcjaa
