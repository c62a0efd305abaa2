/-
  What the statements' lent (a copy of a table) returns.
-/
import Derived.Test.YtoadamimfhjoiaaRCanon
namespace Go.Proofs.Ytoadamimfhjoiaa
open Go.RowKit Go.Sort Go.Shelf

/- One row more in a table of the call's own. -/
theorem row_more2 {wr W0 w1 : World} {T B3 B : Nat} {rv v' cv hd : Value} {hs : List Value} {rs : List Rw} {r : Rw} (hT : T < B3)
    (hsz : B3 ≤ wr.heap.size) (HK2 : wr.heap[T]? = some (.cells #[cv, rv] 25 (0, 0))) (HO : Own one 1 35 B3 wr rv hs) (HH : HeadsIn (ty48 B wr) wr hs rs) (hW0 : Below wr.heap.size wr W0) (r0 : RowIn (ty48 B W0) W0 hd r)
    (HO1 : Own one 1 35 B3 w1 v' (hs ++ [hd])) (HB1 : Below B3 W0 w1) (HG1 : W0.grownBy w1 rv.ownBlock) :
    B3 ≤ (w1.setCell ⟨T, 1, none⟩ v').heap.size ∧ (w1.setCell ⟨T, 1, none⟩ v').heap[T]? = some (.cells #[cv, v'] 25 (0, 0)) ∧ (∀ b, b < T → (w1.setCell ⟨T, 1, none⟩ v').heap[b]? = wr.heap[b]?) ∧
    Own one 1 35 B3 (w1.setCell ⟨T, 1, none⟩ v') v' (hs ++ [hd]) ∧ HeadsIn (ty48 B (w1.setCell ⟨T, 1, none⟩ v')) (w1.setCell ⟨T, 1, none⟩ v') (hs ++ [hd]) (rs ++ [r]) := by
  have K21 : w1.heap[T]? = some (.cells #[cv, rv] 25 (0, 0)) := (HB1.block T hT).trans (block_on HK2 hW0)
  have hne48 : ∀ b, ty48 B w1 b → b ≠ T := fun b hb e => by
    subst e
    obtain ⟨-, c, fz, hc⟩ := hb
    rw [K21] at hc
    cases hc
  refine ⟨?_, ?_, ?_, ?_, ?_⟩
  · rw [World.size_setCell]
    exact Nat.le_trans hsz (Nat.le_trans hW0.size HB1.size)
  · have := heap_setCell_same w1 T 1 _ 25 v' K21
    rw [this]
    rfl
  · intro b hb
    rw [heap_setCell_other _ _ _ _ (by show b ≠ T; omega), HB1.block b (by omega)]
    exact hW0.block b (by omega)
  · refine ⟨HO1.1, HO1.2.elim Or.inl (fun ⟨g, cap, cur, hv, hg, hblk, q⟩ => Or.inr ⟨g, cap, cur, hv, hg, ?_, q⟩)⟩
    rw [heap_setCell_other _ _ _ _ (by show g ≠ T; omega)]
    exact hblk
  · have h0 := heads_ty_on HH hW0
    have ho0 : Own one 1 35 B3 W0 rv hs := HO.on hW0
    have h1 := heads_grown h0 HG1 (fun b hb => own_ne ho0 hb)
    have r1 := row_grown r0 HG1 (fun b hb => own_ne ho0 hb)
    refine ((h1.snoc r1).set hne48).imp (fun b hb => ?_)
    have hn := hne48 b hb
    obtain ⟨hB, c, fz, hc⟩ := hb
    exact ⟨hB, c, fz, (heap_setCell_other _ _ _ _ (by show b ≠ T; exact hn)).trans hc⟩
theorem own_row {B : Nat} {w : World} {v : Value} {r : Rw} (h : Own Vl.cells 11 48 B w v r) (hb : r.length * bsz 11 ≤ 140737488355328) {B' : Nat} (hB : B' ≤ B) : RowIn (ty48 B' w) w v r := by
  refine SlAt.imp (Q := fun b => b = v.ownBlock.getD 0 ∧ v.ownBlock.isSome ∧ B ≤ b) ?_ (fun b hb => ?_)
  · obtain ⟨p, cap, hv, hc, hm, hx⟩ := Own.sl h vl_len hb
    refine ⟨p, cap, hv, hc, hm, fun hn => ?_⟩
    obtain ⟨b, o, hp, hQ, hj⟩ := hx hn
    subst hv hp
    exact ⟨b, o, rfl, ⟨⟨by rcases h.2 with ⟨e, _⟩ | ⟨g, c, cur, e, _⟩ <;> (cases e; try rfl), by rcases h.2 with ⟨e, _⟩ | ⟨g, c, cur, e, _⟩ <;> (cases e; try rfl), hQ.1⟩, hQ.2⟩, hj⟩
  · obtain ⟨e, hs, hB2⟩ := hb
    obtain ⟨g, hg⟩ := Option.isSome_iff_exists.1 hs
    have e' : b = g := by rw [hg] at e; exact e
    obtain ⟨c, fz, hc⟩ := Lib.ownsRow_kind h g hg
    exact ⟨Nat.le_trans hB hB2, c, fz, by rw [e']; exact hc⟩
theorem made48_d (w : World) : Own Vl.cells 11 48 w.heap.size (w.alloc (.cells #[] 48)).drew (.slice (some ⟨w.heap.size, 0, none⟩) 0 0) ([] : Rw) := Own.made Vl.cells 11 48 w.heap.size w (Nat.le_refl _)
theorem take_snoc {rs : List Rw} {k : Nat} (h : k < rs.length) : rs.take (k + 1) = rs.take k ++ [rs[k]!] := by
  rw [List.take_add_one, get!_some h]; rfl
theorem made_sz (B : Nat) (w : World) (h : w.heap.size = B) : Own Cl.cells 2 45 B (w.alloc (.cells #[] 45)) (.slice (some ⟨B, 0, none⟩) 0 0) ([] : List Cl) := by
  subst h
  exact Own.made Cl.cells 2 45 _ w (Nat.le_refl _)
set_option maxRecDepth 100000 in
set_option maxHeartbeats 8000000 in
theorem lent_any {v : Value} {cs : List Cl} {rs : List Rw} {w : World} (hv : TabAt w v cs rs) (hl : rs.length ≤ 4095) :
    Calls Try.prog 17 #[v] w fun e w' => ∃ v', e = .returned v' ∧ TabIn (fun b => w.heap.size ≤ b) w' v' cs rs ∧ Below w.heap.size w w' := by
  obtain ⟨c, r, rfl, hc, hs, hr, hh⟩ := hv
  have HC := hid hc
  have HR := hid hr
  have HH := hid hh
  have HBD := hid (SlAt.bound hc)
  obtain ⟨q, cap', rfl, -⟩ := hc
  obtain ⟨p, cap, rfl, -, hmx, hx⟩ := hr
  unfold maxLen at hmx
  have HX := hid hx
  clear hx
  generalize hnr : hs.length = n at *
  have HNR := hid hnr
  have hn : n ≤ 4095 := by rw [← hnr, hh.1]; exact hl
  clear hh hl hnr
  generalize hnc : cs.length = nc at *
  have HNC := hid hnc
  clear hnc
  have HBD' : Hid (cs.length * bsz 2 ≤ 140737488355328) := by rw [HNC.out]; exact HBD.out
  have HE := hid (below_aa w (.cells #[.slice q nc cap', .slice p n cap] 25) (.cells #[.slice none 0 0, .slice none 0 0] 25))
  have K0 := hid (alloc_blk1' w (.cells #[.slice q nc cap', .slice p n cap] 25) (.cells #[.slice none 0 0, .slice none 0 0] 25))
  have K1 := hid (alloc_blk2' w (.cells #[.slice q nc cap', .slice p n cap] 25) (.cells #[.slice none 0 0, .slice none 0 0] 25))
  have hs0 : (((w.alloc (.cells #[.slice q nc cap', .slice p n cap] 25)).alloc (.cells #[.slice none 0 0, .slice none 0 0] 25))).heap.size = w.heap.size + 1 + 1 := by simp
  have ka : ∀ (A : Obj) (j : Nat), ((((w.alloc (.cells #[.slice q nc cap', .slice p n cap] 25)).alloc (.cells #[.slice none 0 0, .slice none 0 0] 25))).alloc A).cell? ⟨w.heap.size, j, none⟩ = (#[.slice q nc cap', .slice p n cap] : Array Value)[j]? := fun A j => block_cell (block_on K0.out ((Below.refl _ _).alloc (Nat.le_refl _) A)) j
  go_enter Try.func17, Try.ntmps17
  go_wp2_with (at_builtin; refine app_any elem45 cl_len (fun x _ => cl_cells x) rfl _ _ rfl rfl (Own.on (made_sz (w.heap.size + 1 + 1) _ hs0) (Below.refl _ _)) rfl (SlAt.on HC.out (HE.out.alloc HE.out.size _)) (by simpa using HBD'.out) (by rw [World.size_alloc, hs0]; omega) ?_; intro v1 w1 hown hb1; rw [List.nil_append] at hown; obtain ⟨pc1, capc1, rfl, -⟩ := Own.sl hown cl_len HBD'.out; rw [HNC.out] at hown ⊢; have HO1 := hid hown; have HB1 := hid ((HE.out.alloc HE.out.size _).trans (hb1.mono (by omega))); have K01 := hid ((hb1.block w.heap.size (by omega)).trans (block_on K0.out ((Below.refl _ _).alloc (Nat.le_refl _) _))); have K11 := hid ((hb1.block (w.heap.size + 1) (by omega)).trans (block_on K1.out ((Below.refl _ _).alloc (Nat.le_refl _) _))); clear hown hb1 ka)
  have hsz1 : w.heap.size + 1 + 1 ≤ w1.heap.size := by have := HB1.out.size; have := lt_of_block K11.out; omega
  have KT0 := hid (alloc_block w1 (.cells #[.slice pc1 nc capc1, .slice none 0 0] 25))
  have HE1 := hid ((Below.refl w1.heap.size w1).alloc (Nat.le_refl _) (.cells #[.slice pc1 nc capc1, .slice none 0 0] 25))
  have hszW : w1.heap.size + 1 ≤ (w1.alloc (.cells #[.slice pc1 nc capc1, .slice none 0 0] 25)).heap.size := by simp
  generalize (w1.alloc (.cells #[.slice pc1 nc capc1, .slice none 0 0] 25)) = W at *
  clear HE K0 K1 hs0
  go_loopw [4] (fun i wr => ∃ (k : Nat) (rv : Value) (hs' : List Value), k ≤ n ∧ i = .int .i64 k ∧ hs'.length = k ∧ w1.heap.size + 1 ≤ wr.heap.size ∧ Hid (wr.heap[w1.heap.size]? = some (.cells #[.slice pc1 nc capc1, rv] 25 (0, 0))) ∧ Hid (Own one 1 35 (w1.heap.size + 1) wr rv hs') ∧ Hid (HeadsIn (ty48 w.heap.size wr) wr hs' (rs.take k)) ∧ Hid (Below w1.heap.size w1 wr)) (fun i _ => n - (intOf i).toNat)
  case atStart => exact ⟨0, _, [], by omega, rfl, rfl, hszW, KT0.out, Own.nil _ _ _ _ _, ⟨rfl, fun j h r h1 _ => by simp at h1⟩, HE1.out⟩
  case round =>
    obtain ⟨k, rv, hs', hk, rfl, hlen, hsz, HKT, HO, HHr, HB⟩ := hrel
    have HBw := hid (below_on HB1.out HB.out)
    have K0r := hid (block_on K01.out HB.out)
    have K1r := hid (block_on K11.out HB.out)
    have k0 := block_cell K0r.out
    by_cases hlt : k < n
    · have hkh : k < hs.length := by rw [HNR.out]; exact hlt
      have hkr : k < rs.length := by rw [← HH.out.1]; exact hkh
      obtain ⟨b, o, rfl, -, hj⟩ := HX.out (by intro e; subst e; simp at hkh)
      have hd := head_cell (fun j x hjx => (hj j x hjx).on HBw.out) (get!_some hkh)
      have HRow := hid ((HH.out.2 k _ _ (get!_some hkh) (get!_some hkr)).on HBw.out)
      have HTK := hid (take_snoc hkr)
      generalize hs[k]! = hd0 at hd HRow
      generalize rs[k]! = r0 at HRow HTK
      clear hj
      obtain ⟨px, capx, rfl, -⟩ := id HRow.out
      have HBR := hid (SlAt.bound HRow.out)
      have hda : ∀ A : Obj, (wr.alloc A).cell? ⟨b, o + k, none⟩ = _ := fun A => cell_on hd ((Below.refl _ wr).alloc (Nat.le_refl _) A)
      have ka0 : ∀ (A : Obj) (j : Nat), (wr.alloc A).cell? ⟨w.heap.size, j, none⟩ = _ := fun A j => block_cell (block_on K0r.out ((Below.refl _ wr).alloc (Nat.le_refl _) A)) j
      have kT := block_cell HKT.out
      have kTa : ∀ (A : Obj) (j : Nat), (wr.alloc A).cell? ⟨w1.heap.size, j, none⟩ = _ := fun A j => block_cell (block_on HKT.out ((Below.refl _ wr).alloc (Nat.le_refl _) A)) j
      have lT := lt_of_block HKT.out
      go_wp2_with fail
      go_region_law (first
        | (refine step_app elem48 vl_len (fun x _ => vl_cells x) rfl (.tmp 19) (.tmp 24) rfl (by simp [Act.eval]; try rfl) (by simp [Act.eval]; try rfl) (made48_d wr) (SlAt.on HRow.out (below_ad wr _)) (by simpa using HBR.out) (by simp) ?_; intro v2 w2 hown2 hb2 hg2; rw [List.nil_append] at hown2; obtain ⟨pv, capv, rfl, -⟩ := Own.sl hown2 vl_len HBR.out; have HR2 := hid (own_row hown2 HBR.out (B' := w.heap.size) HBw.out.size); have HB2 := hid ((below_ad wr _).trans hb2); have kT2 := block_cell (block_on HKT.out HB2.out); have kT2a := fun A => block_cell (block_on HKT.out (HB2.out.alloc HB2.out.size A)); clear hown2 hb2 hg2)
        | (refine step_head rfl (.tmp 18) (.tmp 26) rfl (by simp [Act.eval]; try rfl) (by simp [Act.eval]; try rfl) (HO.out.on (HB2.out.alloc HB2.out.size _)) (alloc_block w2 _) rfl (by omega) (by have := HB2.out.size; simp; omega) ?_; intro v3 w3 hown3 hb3 hg3; have HO3 := hid hown3; have HB3 := hid hb3; have HG3 := hid hg3; obtain ⟨g', cap3, rfl⟩ := Joins.ownsRow_form hown3 (by simp); have KT3 : Hid (w3.heap[w1.heap.size]? = _) := (hb3.block w1.heap.size (by omega)).trans (block_on HKT.out (HB2.out.alloc HB2.out.size _)); have kT3 := block_cell KT3.out; have fT3 := frozen_no KT3.out; clear hown3 hb3 hg3))
      all_goals
        go_wp2
        go_roundw
        case rel =>
          have e1 : (hs' ++ [Value.slice pv (List.length r0) capv]).length = k + 1 := by simp [hlen]
          rw [e1] at HO3
          have hal := HB2.out.alloc HB2.out.size (.cells #[.slice pv (List.length r0) capv] 35)
          have hal2 := (Below.refl w2.heap.size w2).alloc (Nat.le_refl _) (.cells #[.slice pv (List.length r0) capv] 35)
          obtain ⟨q0, q1, q2, q3, q4⟩ := row_more2 (T := w1.heap.size) (B := w.heap.size) (r := r0) (by omega) hsz HKT.out HO.out HHr.out hal ((HR2.out.on hal2).imp (fun b hb => ty_on hb hal2)) HO3.out HB3.out HG3.out
          exact ⟨k + 1, _, _, by omega, by go_num, e1, q0, q1, q3, by rw [HTK.out]; exact q4, below_set (HB.out.trans ((hal.mono HB.out.size).trans (HB3.out.mono (by omega)))) (Nat.le_refl _)⟩
        case measure => simp [intOf]; omega
    · have hks : k = n := by omega
      subst hks
      have kT := block_cell HKT.out
      have z2 := block_cell K1r.out
      have zf := frozen_no K1r.out
      have htk : rs.take k = rs := List.take_of_length_le (by rw [← HH.out.1, HNR.out]; exact Nat.le_refl _)
      rw [htk] at HHr
      obtain ⟨pr, capr, rfl, -, -, -⟩ := Own.sl HO.out one_len (small1 (by omega))
      rw [hlen] at kT HKT HO
      go_wp2
      have HT : TabIn (fun b => w.heap.size ≤ b ∧ b ≠ w.heap.size + 1) wr (.agg #[.slice pc1 nc capc1, .slice pr k capr]) cs rs := by
        refine ⟨_, _, rfl, SlAt.imp (SlAt.on (SlAt.low (Own.sl HO1.out cl_len HBD'.out) (by decide) cl_len) HB.out) (fun b hb => by omega), hs', (Own.sl HO.out one_len (small1 (by omega))).imp (fun b hb => by omega), HHr.out.imp (fun b hb => ?_)⟩
        obtain ⟨hB, c, fz, hc⟩ := hb
        refine ⟨hB, fun e => ?_⟩
        subst e
        rw [K1r.out] at hc
        cases hc
      refine bodyPost_ret (v := .agg #[.slice pc1 nc capc1, .slice pr k capr]) ?_ rfl ⟨_, rfl, ?_, ?_⟩
      · have KF := Joins.block_setCell (i := 1) (Joins.block_setCell (i := 0) K1r.out (.slice pc1 nc capc1)) (.slice pr k capr)
        clear kT z2 zf k0
        generalize ((wr.setCell ⟨w.heap.size + 1, 0, none⟩ (.slice pc1 nc capc1)).setCell ⟨w.heap.size + 1, 1, none⟩ (.slice pr k capr)) = WF at KF ⊢
        have kcf := block_cell KF
        clear KF
        simp [results, Try.results17, go_sem, kcf]
      · exact (TabIn.set (fun b hb => hb.2) (TabIn.set (fun b hb => hb.2) HT)).imp (fun b hb => hb.1)
      · exact below_set (below_set HBw.out (by omega)) (by omega)
end Go.Proofs.Ytoadamimfhjoiaa
