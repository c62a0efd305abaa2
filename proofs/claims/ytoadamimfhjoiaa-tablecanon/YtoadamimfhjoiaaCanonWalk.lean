/-
  The walk of catchmentlaw02.TableCanon.
-/
import Derived.Test.YtoadamimfhjoiaaSameWalk
import Derived.Test.YtoadamimfhjoiaaLent
namespace Go.Proofs.Ytoadamimfhjoiaa
open Go.RowKit Go.Sort Go.Shelf

theorem cut_len (rs : List Rw) : (rs.take 200).length ≤ 4095 := by simp; omega
theorem lentT {v : Value} {cs : List Cl} {rs : List Rw} {w : World} (hv : TabAt w v cs rs) (hl : rs.length ≤ 4095) :
    Calls Try.prog 17 #[v] w fun e w' => ∃ pc capc pr capr, e = .returned (.agg #[.slice pc cs.length capc, .slice pr rs.length capr]) ∧ TabAt w' (.agg #[.slice pc cs.length capc, .slice pr rs.length capr]) cs rs ∧ Below w.heap.size w w' :=
  (lent_any hv hl).mono fun e w' ⟨v', he, ht, hb⟩ => by
    obtain ⟨pc, capc, pr, capr, e1⟩ := ht.at.form rfl rfl
    subst e1
    exact ⟨pc, capc, pr, capr, he, ht.at, hb⟩
theorem canonT {v : Value} {cs : List Cl} {rs : List Rw} {w : World} (hv : TabAt w v cs rs) :
    Calls Try.prog 18 #[v] w fun e w' => ∃ pc capc pr capr, e = .returned (.agg #[.slice pc cs.length capc, .slice pr rs.length capr]) ∧ TabAt w' (.agg #[.slice pc cs.length capc, .slice pr rs.length capr]) cs (sortR rs) ∧ Below w.heap.size w w' :=
  (canon_any hv).mono fun e w' ⟨v', he, ht, hb⟩ => by
    obtain ⟨pc, capc, pr, capr, e1⟩ := ht.at.form rfl (sortR_length rs)
    subst e1
    exact ⟨pc, capc, pr, capr, he, ht.at, hb⟩
theorem rcanonT {v : Value} {cs : List Cl} {rs : List Rw} {w : World} (hv : TabAt w v cs rs) :
    Calls Try.prog 19 #[v] w fun e w' => ∃ pc capc pr capr, e = .returned (.agg #[.slice pc cs.length capc, .slice pr rs.length capr]) ∧ TabAt w' (.agg #[.slice pc cs.length capc, .slice pr rs.length capr]) cs (sortR rs) ∧ Below w.heap.size w w' :=
  (rcanon_any hv).mono fun e w' ⟨v', he, ht, hb⟩ => by
    obtain ⟨pc, capc, pr, capr, e1⟩ := ht.form rfl (sortR_length rs)
    subst e1
    exact ⟨pc, capc, pr, capr, he, ht, hb⟩
set_option maxRecDepth 100000 in
set_option maxHeartbeats 1000000 in
theorem tableCanon_any {v : Value} {cs : List Cl} {rs : List Rw} {w : World} (hv : TabAt w v cs rs) :
    Calls Try.prog 4 #[v] w fun e w' => e = .returned (.bool true) ∧ Below w.heap.size w w' := by
  obtain ⟨q, nc, cap', p, n, cap, rfl, hcap, hc⟩ := hv.cuts
  have hl := cut_len rs
  have HC := hid hc
  clear hv hc
  generalize rs.take 200 = rs' at *
  have HL := hid hl
  clear hl
  have HE := hid ((Below.refl w.heap.size w).alloc (Nat.le_refl _) (.cells #[.slice q nc cap', .slice p n cap] 25))
  have K0 := hid (alloc_block w (.cells #[.slice q nc cap', .slice p n cap] 25))
  generalize hm : min n 200 = m at *
  have AL := hid (fun (W : World) (o : Obj) => (Below.refl W.heap.size W).alloc (Nat.le_refl _) o)
  have S1 := hid (fun W u t (hu : TabAt W u cs rs') (ht : TabAt W t cs rs') => rsame_is hu ht (sameB_self cs rs'))
  have S2 := hid (fun W u t (hu : TabAt W u cs (sortR rs')) (ht : TabAt W t cs (sortR rs')) => rsame_is hu ht (sameB_self cs (sortR rs')))
  have M1 : Hid True := trivial
  have M2 : Hid True := trivial
  go_enter Try.func4, Try.ntmps4
  go_wp2_with (first
    | (go_at_call 9; refine shown_any.mono ?_; rintro e w1 ⟨rfl, hb1⟩; have HB1 := hid (below_on HE.out hb1); have K1 := hid (block_on K0.out hb1); have k1 := block_cell K1.out; clear hb1)
    | (go_at_call 10; refine (cut_val hcap).mono ?_; rintro e w2 ⟨rfl, hb2⟩; rw [hm]; have HB2 := hid (below_on HB1.out hb2); have K2 := hid (block_on K1.out hb2); clear k1 hb2; have k2 := block_cell K2.out; have f2 := frozen_no K2.out))
  have K3 : Hid (((w2.setCell ⟨w.heap.size, 0, none⟩ (.slice q nc cap')).setCell ⟨w.heap.size, 1, none⟩ (.slice p m cap)).heap[w.heap.size]? = some (.cells #[.slice q nc cap', .slice p m cap] 25 (0, 0))) := Joins.block_setCell (i := 1) (Joins.block_setCell (i := 0) K2.out (.slice q nc cap')) (.slice p m cap)
  have HB3 := hid (below_set (i := 1) (u := .slice p m cap) (below_set (i := 0) (u := .slice q nc cap') HB2.out (Nat.le_refl _)) (Nat.le_refl _))
  clear k2 f2 K0 K1 K2 HB1 HB2 HE hm hcap
  generalize ((w2.setCell ⟨w.heap.size, 0, none⟩ (.slice q nc cap')).setCell ⟨w.heap.size, 1, none⟩ (.slice p m cap)) = W3 at *
  go_wp2_with (first
    | (go_at_call 17; refine (lentT (HC.out.on HB3.out) HL.out).mono ?_; rintro e w4 ⟨pc4, capc4, pr4, capr4, rfl, ht4, hb4⟩; have HT4 := hid ht4; have HB4 := hid hb4; have K14 := hid (block_on K3.out hb4); clear ht4 hb4)
    | (go_at_call 18; clear M1; refine (canonT (HT4.out.on (AL.out _ _))).mono ?_; rintro e w5 ⟨pc5, capc5, pr5, capr5, rfl, ht5, hb5⟩; have HT5 := hid ht5; have HB5 := hid (below_on (AL.out _ _) hb5); have K45 := hid (block_on (alloc_block w4 _) hb5); have K15 := hid (block_on K14.out HB5.out); have l15 := lt_of_block K15.out; have k15 := block_cell K15.out; clear ht5 hb5)
    | (go_at_call 19; refine (rcanonT (HC.out.on (below_on HB3.out (below_on HB4.out (below_on HB5.out (AL.out _ _)))))).mono ?_; rintro e w6 ⟨pc6, capc6, pr6, capr6, rfl, ht6, hb6⟩; have HT6 := hid ht6; have HB6 := hid (below_on (AL.out _ _) hb6); have K56 := hid (block_on (alloc_block w5 _) hb6); have K46 := hid (block_on K45.out HB6.out); have K16 := hid (block_on K15.out HB6.out); clear k15 l15; have l16 := lt_of_block K16.out; have k16 := block_cell K16.out; have l46 := lt_of_block K46.out; have k46 := block_cell K46.out; clear ht6 hb6)
    | (go_at_call 20; clear M2; refine (S1.out _ _ _ (HT4.out.on (below_on HB5.out (below_on HB6.out (AL.out _ _)))) (HC.out.on (below_on HB3.out (below_on HB4.out (below_on HB5.out (below_on HB6.out (AL.out _ _))))))).mono ?_; rintro e w7 ⟨rfl, hb7⟩; have HB7 := hid (below_on (AL.out _ _) hb7); have K67 := hid (block_on (alloc_block w6 _) hb7); have K57 := hid (block_on K56.out HB7.out); clear k16 l16 k46 l46; have k57 := block_cell K57.out; have k67 := block_cell K67.out; clear hb7)
    | (go_at_call 20; refine (S2.out _ _ _ (HT5.out.on (below_on HB6.out HB7.out)) (HT6.out.on HB7.out)).mono ?_; rintro e w8 ⟨rfl, hb8⟩; have HB8 := hid hb8; have K68 := hid (block_on K67.out HB8.out); have K58 := hid (block_on K57.out HB8.out); clear k57 k67; have k58 := block_cell K58.out; have k68 := block_cell K68.out; clear hb8))
  go_region_with (first
    | (go_at_call 18; refine (canonT (HT5.out.on (below_on HB6.out (below_on HB7.out (below_on HB8.out (by first | exact below_d _ | exact Below.refl _ _)))))).mono ?_; rintro e w9 ⟨pc9, capc9, pr9, capr9, rfl, ht9, hb9⟩; have HT9 := hid (by rw [sortR_sortR] at ht9; exact ht9); have HB9 : Hid (Below w8.heap.size w8 w9) := (by first | exact below_on (below_d _) hb9 | exact hb9); have k69 := block_cell (block_on K68.out HB9.out); clear ht9 hb9)
    | (go_at_call 20; refine (S2.out _ _ _ HT9.out (HT6.out.on (below_on HB7.out (below_on HB8.out HB9.out)))).mono ?_; rintro e w10 ⟨rfl, hb10⟩; have HB10 := hid hb10; clear hb10))
  all_goals
    go_wp2
    go_ret
    exact ⟨rfl, below_on HB3.out (below_on HB4.out (below_on HB5.out (below_on HB6.out (below_on HB7.out (below_on HB8.out (below_on HB9.out HB10.out))))))⟩
end Go.Proofs.Ytoadamimfhjoiaa
