/-
  What table.Keep returns, for every table and all names (at most 4096).
-/
import Derived.Test.YtaccindmjaejdaaPE
import Derived.Test.YtaccindmjaejdaaPN
namespace Go.Proofs.Ytaccindmjaejdaa
open Go.RowKit Go.Sort Go.Shelf

def keepE (cs : List Cl) (rs : List Rw) (ns : List ByteArray) : Int := if checkV cs rs = 0 then (if places cs ns [] = [] then 20 else 0) else checkV cs rs
def keepC (cs : List Cl) (rs : List Rw) (ns : List ByteArray) : List Cl := if keepE cs rs ns = 0 then (places cs ns []).map (fun p => cs[p]!) else []
def keepR (cs : List Cl) (rs : List Rw) (ns : List ByteArray) : List Rw := if keepE cs rs ns = 0 then sortR (rs.map fun r => (places cs ns []).map fun p => r[p]!) else []
theorem tab_nil (Q : Nat → Prop) (w : World) : TabIn Q w (.agg #[.slice none 0 0, .slice none 0 0]) [] [] := ⟨_, _, rfl, SlAt.nil _ _ _ _, [], SlAt.nil _ _ _ _, ⟨rfl, fun j h r h1 _ => by simp at h1⟩⟩
theorem check_fits {cs : List Cl} {rs : List Rw} (h : checkV cs rs = 0) : ∀ r ∈ rs, r.length = cs.length := by
  intro r hr
  unfold checkV at h
  split at h
  · split at h
    · rename_i h1 h2
      rw [List.all_eq_true] at h2
      have := h2 r hr
      simp only [rowB, decide_eq_true_eq] at this
      exact this.1
    · omega
  · omega
set_option maxHeartbeats 400000 in
theorem kept_any {h : Value} {r : Rw} {PB : Nat} {pv : Value} {ps : List Nat} {W : World} (hr : RowAt W h r) (hcell : W.cell? ⟨PB, 0, none⟩ = some pv) (hp : SlAt any encN 1 W pv ps) (hps : ∀ p ∈ ps, p < r.length) (hl : ps.length ≤ 4096) :
    Calls Try.prog 39 (#[h] ++ #[.pointer (some ⟨PB, 0, none⟩)]) W fun e w' => ∃ v', e = .returned v' ∧ RowIn (fun b => W.heap.size ≤ b) w' v' (ps.map fun p => r[p]!) ∧ Below W.heap.size W w' := by
  have HC := hid (pickV_any hr hp hps hl)
  show Calls Try.prog 39 #[h, .pointer (some ⟨PB, 0, none⟩)] W _
  obtain ⟨q, cap, rfl, -⟩ := hp
  generalize List.length ps = n at *
  clear hr hps
  go_enter Try.func39, Try.ntmps39
  go_wp2_with (first | (go_at_call 40; refine HC.out.mono ?_; rintro e w1 ⟨v', rfl, hrow, hb1⟩))
  go_ret
  exact ⟨_, rfl, hrow, hb1⟩
theorem check_is {v : Value} {cs : List Cl} {rs : List Rw} {w : World} {c : Int} (hv : TabAt w v cs rs) (h : checkV cs rs = c) :
    Calls Try.prog 33 #[v] w fun e w' => e = .returned (.int .i64 c) ∧ Below w.heap.size w w' := by rw [← h]; exact check_any hv
set_option maxHeartbeats 2000000 in
theorem keep_any {t nv : Value} {cs : List Cl} {rs : List Rw} {ns : List ByteArray} {w : World} (ht : TabAt w t cs rs) (hn : NamesAt w nv ns) (hl : ns.length ≤ 4096) :
    Calls Try.prog 16 #[t, nv] w fun e w' => ∃ v', e = .returned (.tuple #[v', .int .i64 (keepE cs rs ns)]) ∧ TabIn (fun b => w.heap.size ≤ b) w' v' (keepC cs rs ns) (keepR cs rs ns) ∧ Below w.heap.size w w' := by
  have HT := hid ht
  obtain ⟨c, rv, rfl, hc, hr⟩ := ht
  have eg : ∀ args w, (callFunc 39 args).run Try.prog w = .ok (.enter 39 args) w := enters_of Try.func39 (by kernel_rfl) rfl
  have HC := hid hc
  have HR := hid hr
  have HNV := hid hn
  obtain ⟨pc, capc, rfl, -⟩ := hc
  obtain ⟨hs, ⟨pr, capr, rfl, -⟩, -⟩ := hr
  obtain ⟨pn, capn, rfl, -⟩ := hn
  generalize hnc : cs.length = nc at *
  have HNC := hid hnc
  clear hnc
  generalize hs.length = nr at *
  have HLN := hid hl
  clear hl
  generalize hnn : List.length ns = nn at *
  replace HLN : Hid (ns.length ≤ 4096) := by rw [hnn]; exact HLN.out
  clear hnn
  have K0 := hid (block_on (alloc_block w (.cells #[.slice pc nc capc, .slice pr nr capr] 25)) ((Below.refl _ _).alloc (Nat.le_refl _) (.cells #[.slice none 0 0, .slice none 0 0] 25)))
  have K1 := hid (alloc_blk2 w (.cells #[.slice pc nc capc, .slice pr nr capr] 25) (.cells #[.slice none 0 0, .slice none 0 0] 25))
  have HB := hid (((Below.refl w.heap.size w).alloc (Nat.le_refl _) (.cells #[.slice pc nc capc, .slice pr nr capr] 25)).alloc (by simp) (.cells #[.slice none 0 0, .slice none 0 0] 25))
  generalize hch : checkV cs rs = ch
  have HCH := hid hch
  clear hch
  by_cases hz : ch = 0
  · subst hz
    have HFIT := hid (check_fits HCH.out)
    have k0 := block_cell K0.out
    cases hps : places cs ns [] with
    | nil =>
      have hkE : keepE cs rs ns = 20 := by unfold keepE; rw [HCH.out, if_pos rfl, if_pos hps]
      have hkC : keepC cs rs ns = [] := by unfold keepC; rw [hkE, if_neg (by decide)]
      have hkR : keepR cs rs ns = [] := by unfold keepR; rw [hkE, if_neg (by decide)]
      rw [hkE, hkC, hkR]
      have HPS := hid hps
      clear hps hkE hkC hkR k0
      go_enter Try.func16, Try.ntmps16
      go_wp2_with (first | (go_at_call 33; refine (check_is (HT.out.on HB.out) HCH.out).mono ?_; rintro e w1 ⟨rfl, hb1⟩; have HB1 := hid (below_on HB.out hb1); have K01 := hid (block_on K0.out hb1); have K11 := hid (block_on K1.out hb1); have k01 := block_cell K01.out; clear hb1) | (go_at_call 38; refine (places_any (HNV.out.on HB1.out) (HC.out.on HB1.out) HLN.out).mono ?_; rintro e w2 ⟨v2, rfl, hv2, -, hb2⟩; rw [HPS.out] at hv2; obtain ⟨q2, cap2, rfl, -⟩ := hv2; have HB2 := hid (below_on HB1.out hb2); have K12 := hid (block_on K11.out hb2); have l12 := lt_of_block K12.out; have k12 := block_cell K12.out; have f12 := frozen_no K12.out; clear hb2))
      refine bodyPost_ret (v := .tuple #[.agg #[.slice none 0 0, .slice none 0 0], .int .i64 20]) ?_ rfl ⟨_, rfl, tab_nil _ _, (below_set (below_set HB2.out (by omega)) (by omega)).alloc (by simp only [World.size_setCell]; exact HB2.out.size) _⟩
      have KF := block_on (Joins.block_setCell (i := 1) (Joins.block_setCell (i := 0) K12.out (.slice none 0 0)) (.slice none 0 0)) ((Below.refl _ _).alloc (Nat.le_refl _) (.cells #[.slice q2 0 cap2] 38))
      generalize (((w2.setCell ⟨w.heap.size + 1, 0, none⟩ (.slice none 0 0)).setCell ⟨w.heap.size + 1, 1, none⟩ (.slice none 0 0)).alloc (.cells #[.slice q2 0 cap2] 38)) = WF at KF ⊢
      have kcf := block_cell KF
      clear KF k12 f12
      simp [results, Try.results16, go_sem, kcf]
    | cons p0 pr0 =>
      have hne0 : ¬ places cs ns [] = [] := by rw [hps]; simp
      have hkE : keepE cs rs ns = 0 := by unfold keepE; rw [HCH.out, if_pos rfl, if_neg hne0]
      have hkC : keepC cs rs ns = (places cs ns []).map (fun p => cs[p]!) := by unfold keepC; rw [hkE, if_pos rfl]
      have hkR : keepR cs rs ns = sortR (rs.map fun r => (places cs ns []).map fun p => r[p]!) := by unfold keepR; rw [hkE, if_pos rfl]
      rw [hkE, hkC, hkR]
      have HLP : Hid (0 < (places cs ns []).length) := by rw [hps]; simp [Hid]
      clear hps hkE hkC hkR k0 hne0
      have HPL := hid (fun W (h : Below w.heap.size w W) => places_any (HNV.out.on h) (HC.out.on h) HLN.out)
      generalize places cs ns [] = ps at *
      go_enter Try.func16, Try.ntmps16
      go_wp2_with (first | (go_at_call 33; refine (check_is (HT.out.on HB.out) HCH.out).mono ?_; rintro e w1 ⟨rfl, hb1⟩; have HB1 := hid (below_on HB.out hb1); have K01 := hid (block_on K0.out hb1); have K11 := hid (block_on K1.out hb1); have k01 := block_cell K01.out; clear hb1) | (go_at_call 38; refine (HPL.out _ HB1.out).mono ?_; rintro e w2 ⟨v2, rfl, hv2, hps2, hb2⟩; have HV2 := hid hv2; have HPS2 := hid hps2; obtain ⟨q2, cap2, rfl, -⟩ := hv2; have hlen := HLP.out; have HB2 := hid (below_on HB1.out hb2); have K02 := hid (block_on K01.out hb2); have K12 := hid (block_on K11.out hb2); clear hb2 hps2))
      have l12 := lt_of_block K12.out
      have KP := hid (alloc_block w2 (.cells #[.slice q2 ps.length cap2] 38))
      have HB3 := hid (HB2.out.alloc HB2.out.size (.cells #[.slice q2 ps.length cap2] 38))
      have K03 := hid (block_on K02.out ((Below.refl _ _).alloc (Nat.le_refl _) (.cells #[.slice q2 ps.length cap2] 38)))
      have K13 := hid (block_on K12.out ((Below.refl _ _).alloc (Nat.le_refl _) (.cells #[.slice q2 ps.length cap2] 38)))
      have HV3 := hid (SlAt.on HV2.out ((Below.refl _ _).alloc (Nat.le_refl _) (.cells #[.slice q2 ps.length cap2] 38)))
      clear k01
      generalize (w2.alloc (.cells #[.slice q2 ps.length cap2] 38)) = W3 at *
      generalize w2.heap.size = PB at *
      have k0 := block_cell K03.out
      have kp := block_cell KP.out
      go_region_with (first | (go_at_call 42; refine (pickC_any (HC.out.on (by first | exact HB3.out | exact HB3.out.drew)) (SlAt.on HV3.out (by first | exact Below.refl _ _ | exact (Below.refl _ _).drew)) HPS2.out.1 HPS2.out.2).mono ?_; rintro e w4 ⟨v4, rfl, hc4, hb4⟩; have HC4 := hid hc4; have HB4 : Hid (Below W3.heap.size W3 w4) := (by first | exact hb4 | exact (Below.refl _ _).drew.trans hb4); have K04 := hid (block_on K03.out HB4.out); have K14 := hid (block_on K13.out HB4.out); have KP4 := hid (block_on KP.out HB4.out); have k04 := block_cell K04.out; have HV4 := hid (SlAt.on HV3.out HB4.out); clear hc4 hb4) | (go_at_call 41; refine (inOrder_any (f := fun r => ps.map fun p => r[p]!) HC4.out (HR.out.on (below_on HB3.out HB4.out)) eg (fun W h r hr hbW hrow => kept_any hrow (by rw [block_cell (block_on KP4.out hbW)]; rfl) (SlAt.on HV4.out hbW) (fun p hp => by rw [HFIT.out r hr]; exact HPS2.out.1 p hp) HPS2.out.2)).mono ?_; rintro e w5 ⟨v5, rfl, ht5, hb5⟩; have HT5 := hid ht5; have HB5 := hid hb5; have K15 := hid (block_on K14.out HB5.out); have k15 := block_cell K15.out; have f15 := frozen_no K15.out; obtain ⟨c5, r5, rfl, ⟨pc5, capc5, rfl, -⟩, hs5, ⟨pr5, capr5, rfl, -⟩, -⟩ := ht5; clear hb5))
      all_goals
        have l1 := lt_of_block K13.out
        have l2 := HB4.out.size
        clear k0 kp k04 k15 f15
        rw [List.length_map] at HT5
        go_wp2
        refine bodyPost_ret (v := .tuple #[.agg #[.slice pc5 ps.length capc5, .slice pr5 hs5.length capr5], .int .i64 0]) ?_ rfl ⟨_, rfl, ?_, ?_⟩
        · have KF := Joins.block_setCell (i := 1) (Joins.block_setCell (i := 0) K15.out (.slice pc5 ps.length capc5)) (.slice pr5 hs5.length capr5)
          generalize ((w5.setCell ⟨w.heap.size + 1, 0, none⟩ (.slice pc5 ps.length capc5)).setCell ⟨w.heap.size + 1, 1, none⟩ (.slice pr5 hs5.length capr5)) = WF at KF ⊢
          have kcf := block_cell KF
          clear KF
          simp [results, Try.results16, go_sem, kcf]
        · exact (TabIn.set (fun b hb => by rcases hb with hb | hb <;> (have : W3.heap.size ≤ b := (by first | exact hb | exact Nat.le_trans l2 hb); omega)) (TabIn.set (fun b hb => by rcases hb with hb | hb <;> (have : W3.heap.size ≤ b := (by first | exact hb | exact Nat.le_trans l2 hb); omega)) HT5.out)).imp (fun b hb => by rcases hb with hb | hb <;> (have : W3.heap.size ≤ b := (by first | exact hb | exact Nat.le_trans l2 hb); omega))
        · exact below_set (below_set (below_on (below_on HB3.out HB4.out) HB5.out) (by omega)) (by omega)
  · have hne : (ch != 0) = true := by simpa using hz
    have hkE : keepE cs rs ns = ch := by unfold keepE; rw [HCH.out, if_neg hz]
    have hkC : keepC cs rs ns = [] := by unfold keepC; rw [hkE, if_neg hz]
    have hkR : keepR cs rs ns = [] := by unfold keepR; rw [hkE, if_neg hz]
    rw [hkE, hkC, hkR]
    have HZ := hid hz
    clear hz hkE hkC hkR
    go_enter Try.func16, Try.ntmps16
    go_wp2_with (first | (go_at_call 33; refine (check_is (HT.out.on HB.out) HCH.out).mono ?_; rintro e w1 ⟨rfl, hb1⟩; have HB1 := hid (below_on HB.out hb1); have K11 := hid (block_on K1.out hb1); have k11 := block_cell K11.out; have f11 := frozen_no K11.out; clear hb1))
    refine bodyPost_ret (v := .tuple #[.agg #[.slice none 0 0, .slice none 0 0], .int .i64 ch]) ?_ rfl ⟨_, rfl, tab_nil _ _, below_set (below_set HB1.out (by omega)) (by omega)⟩
    have KF := Joins.block_setCell (i := 1) (Joins.block_setCell (i := 0) K11.out (.slice none 0 0)) (.slice none 0 0)
    generalize ((w1.setCell ⟨w.heap.size + 1, 0, none⟩ (.slice none 0 0)).setCell ⟨w.heap.size + 1, 1, none⟩ (.slice none 0 0)) = WF at KF ⊢
    have kcf := block_cell KF
    clear KF k11 f11
    simp [results, Try.results16, go_sem, kcf]
end Go.Proofs.Ytaccindmjaejdaa
