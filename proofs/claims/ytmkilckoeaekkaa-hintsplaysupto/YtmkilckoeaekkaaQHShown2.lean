/-
  What the statements' own shown returns.
-/
import Derived.Test.YtmkilckoeaekkaaQHShown
namespace Go.Proofs.Ytmkilckoeaekkaa
open Go.RowKit Go.Sort Go.Maps Go.Shelf

/- The query 'not host = "we"', in a box of its own. -/
structure Nt (nb gL : Nat) (v : Value) (w : World) : Prop where
  cell : w.heap[nb]? = some (.cells #[v] 26)
  qn : Qn (fun _ => True) w v [(condN 14 1 weB, []), (notN gL, [0])]
theorem Nt.on {nb gL : Nat} {v : Value} {w w' : World} (h : Nt nb gL v w) (hb : Below w.heap.size w w') : Nt nb gL v w' := ⟨block_on h.cell hb, h.qn.on hb⟩
theorem Hx.not_cells {B M : Nat} {w : World} {b : Nat} {x : Ix} {T : Nat → Prop} (h : Hx B M w b x T) {g : Nat} {c : Array Value} {t : TypeId} {fz : Nat × Nat} (hg : w.heap[g]? = some (.cells c t fz)) (ht : t ≠ 68) : ¬ T g := by
  obtain ⟨mo, f, c', N, hk, h2, h3, rfl⟩ := h
  intro hT
  rcases hk.T_kind g hT with ⟨cs, hc⟩ | ⟨es, c, hc⟩
  · rw [hg] at hc; cases hc; exact ht rfl
  · rw [hg] at hc; cases hc
theorem Ax.kpC {w0 w w' : World} {M b : Nat} {x : Ix} (h : Ax w0 M b x w) {g : Nat} {c : Array Value} {t : TypeId} {fz : Nat × Nat} (hk : Kp (fun k => k = g) w w') (hg : w.heap[g]? = some (.cells c t fz)) (ht : t ≠ 68) (hw : w0.heap.size ≤ g) : Ax w0 M b x w' := by
  obtain ⟨⟨T, h1⟩, h2⟩ := h
  exact ⟨⟨T, h1.kp hk (fun k hT e => by subst e; exact h1.not_cells hg ht hT)⟩, h2.trans (hk.below h2.size (fun k e => by omega))⟩
/- The query is made. -/
theorem nt_made {w w5 w6 : World} {b g : Nat} {v' : Value} (hax : Ax w 6 b exX w5) (hg : w.heap.size ≤ g) (hgl : g < w5.heap.size) (hb : w5.heap[g]? = some (.cells (condN 14 1 weB).cells.toArray 63))
    (hown : Own Nd.cells 19 63 w.heap.size w6 v' [condN 14 1 weB, notN (w5.heap.size + 1)]) (hgr : (((w5.alloc (.cells #[.slice (some ⟨g, 0, none⟩) 1 1] 26)).alloc (.cells #[.int .i64 0] 3)).alloc (.cells (notN (w5.heap.size + 1)).cells.toArray 63)).grownBy w6 (some g)) :
    w6.heap[w5.heap.size]? = some (.cells #[.slice (some ⟨g, 0, none⟩) 1 1] 26) ∧ Ax w 6 b exX (w6.setCell ⟨w5.heap.size, 0, none⟩ v') ∧ Nt w5.heap.size (w5.heap.size + 1) v' (w6.setCell ⟨w5.heap.size, 0, none⟩ v') := by
  obtain ⟨t1, t2, t3, t4⟩ := three w5 (.cells #[.slice (some ⟨g, 0, none⟩) 1 1] 26) (.cells #[.int .i64 0] 3) (.cells (notN (w5.heap.size + 1)).cells.toArray 63)
  generalize ((w5.alloc (.cells #[.slice (some ⟨g, 0, none⟩) 1 1] 26)).alloc (.cells #[.int .i64 0] 3)).alloc (.cells (notN (w5.heap.size + 1)).cells.toArray 63) = W at *
  have k6 : Kp (fun k => k = g) W w6 := Kp.grown hgr (fun k e => by cases e; rfl)
  have c1 : w6.heap[w5.heap.size]? = some (.cells #[.slice (some ⟨g, 0, none⟩) 1 1] 26) := k6.blk t1 (by omega)
  have c2 : w6.heap[w5.heap.size + 1]? = some (.cells #[.int .i64 0] 3) := k6.blk t2 (by omega)
  have a6 := (hax.on t4).kpC k6 (block_on hb t4) (by decide) hg
  have ks : Kp (fun k => k = w5.heap.size) w6 (w6.setCell ⟨w5.heap.size, 0, none⟩ v') := Kp.set (T := fun k => k = w5.heap.size) rfl _
  have hz := hax.2.size
  refine ⟨c1, a6.kpC ks c1 (by decide) hz, ⟨block_set c1 0 v', ?_⟩⟩
  have ho := hown.kp ks (fun k e e2 => by subst e2; obtain ⟨c, fz, hc⟩ := hown.kind e; rw [c1] at hc; cases hc)
  have c3 : (w6.setCell ⟨w5.heap.size, 0, none⟩ v').heap[w5.heap.size + 1]? = some (.cells #[.int .i64 0] 3) := ks.blk c2 (by omega)
  refine ⟨?_, fun y hy => ?_, by simp⟩
  · obtain ⟨p, cap, hv, hc, hx⟩ := ho.sl nd_len
    refine ⟨p, cap, hv, hc, fun _ => ?_⟩
    obtain ⟨b', o', hp, -, hcell⟩ := hx (by simp)
    refine ⟨b', o', hp, trivial, fun j y hj => ?_⟩
    match j with
    | 0 => simp at hj; subst hj; exact hcell 0 _ rfl
    | 1 => simp at hj; subst hj; exact hcell 1 _ rfl
    | j + 2 => simp at hj
  · simp at hy
    rcases hy with rfl | rfl
    · exact ⟨by show hostB.size ≤ maxLen; decide, by show weB.size ≤ _; decide, nil_sl _ _ _ _, ⟨_, _, _, rfl⟩, ⟨_, _, _, rfl⟩⟩
    · exact ⟨by show (⟨#[]⟩ : ByteArray).size ≤ maxLen; decide, by show (⟨#[]⟩ : ByteArray).size ≤ _; decide, (one_sl (w := w5) (x := (0 : Int)) (enc := int1) (by omega) c3 (by decide)).imp (fun _ _ => trivial), ⟨_, _, _, rfl⟩, ⟨_, _, _, rfl⟩⟩
set_option maxRecDepth 100000 in
set_option maxHeartbeats 4000000 in
theorem shown_any (w : World) : Calls Try.prog 6 #[] w fun e w' => e = .returned (.bool true) ∧ Below w.heap.size w w' := by
  go_enter Try.func6, Try.ntmps6
  go_upto_region 7 with (first
    | (go_at_call 7; refine (new_any (Nat.le_refl w.heap.size)).mono ?_; rintro e w1 ⟨b, rfl, hk, -, hb⟩; have AX : Hid (Ax w 0 b Ix.none w1) := ⟨⟨_, Hx.made hk⟩, hb⟩; clear hk hb)
    | (go_at_call 20; refine (load_any _).mono ?_; rintro e w2 ⟨ks, vs, rfl, h1, h2, hb⟩; have S1 := hid h1; have S2 := hid h2; have HB1 := hid hb; clear h1 h2 hb)
    | (go_at_call 21; refine (point_any _ _).mono ?_; rintro e w3 ⟨pk, pv, rfl, h1, h2, hb⟩; have S3 := hid h1; have S4 := hid h2; have HB2 := hid hb; clear h1 h2 hb)
    | (go_at_call 9; refine (ax_add AX.out (by omega) (by decide) HB1.out HB2.out S1.out S2.out S3.out S4.out).mono ?_; rintro e w4 ⟨rfl, hax⟩; replace AX := hid hax; clear S1 S2 S3 S4 HB1 HB2 hax)
    | (go_at_call 22; refine (cond_any 14 1 (by decide) _).mono ?_; rintro e w5 ⟨g, rfl, hbk, hg, -, hb⟩; replace hg := Nat.le_trans AX.out.2.size hg; replace AX := hid (AX.out.on hb); have HBk := hid hbk; clear hbk hb))
  have hax : Ax w 6 b exX w5 := AX.out
  replace AX := hid hax
  have HOw : Hid (Own Nd.cells 19 63 w.heap.size w5 (.slice (some ⟨g, 0, none⟩) 1 1) [condN 14 1 weB]) := Own.blk nd_len hg (by have := HBk.out; simpa using this) (by decide)
  have H3 := hid (three w5)
  have HBw := hid hax.2
  have HGl := hid (lt_of_block HBk.out)
  clear hax
  go_upto_region 8 with (first
    | (at_builtin; refine app_N (xs := [condN 14 1 weB]) (ys := [notN (w5.heap.size + 1)]) elem63 nd_len (fun y hy => by simp at hy; subst hy; exact nd_one rfl rfl rfl) rfl _ _ rfl rfl (HOw.out.on (H3.out _ _ _).2.2.2) rfl (one_sl (w := w5) (x := notN (w5.heap.size + 1)) (by omega) (H3.out _ _ _).2.2.1 (by decide)) (by simp) (by simp) (by omega) (Nat.le_trans HBw.out.size (H3.out _ _ _).2.2.2.size) ?_; intro v' w6 hown hgr; obtain ⟨hc1, ha6, hn6⟩ := nt_made AX.out hg HGl.out HBk.out hown hgr; obtain ⟨p', c', rfl⟩ := hown.form; have k6 := block_cell hc1; have f6 := block_frozen hc1; have l6 := lt_of_block hc1; have AX6 := hid ha6; have HN := hid hn6; clear ha6 hn6 hown hgr hc1))
  have e2 : ([condN 14 1 weB] ++ [notN (w5.heap.size + 1)]).length = 2 := rfl
  rw [e2] at AX6 HN
  clear k6 f6 l6 AX HBk HOw H3 HGl e2
  generalize w6.setCell ⟨w5.heap.size, 0, none⟩ (.slice p' 2 c') = W8 at *
  have kN := block_cell HN.out.cell
  have lN := lt_of_block HN.out.cell
  generalize w5.heap.size = nb at *
  have E1 := hid ex1
  have E2 := hid ex2
  have E3 := hid ex3
  have E4 := hid ex4
  have E5 := hid (ex5 (nb + 1))
  have E6 := hid (ex6 (nb + 1))
  have E7 := hid ex7
  have E8 := hid ex8
  generalize exX = X at *
  go_wp2_with (first
    | (go_at_call 22; refine (cond_any _ _ (by decide) _).mono ?_; rintro e w9 ⟨g9, rfl, -, -, hq, hb⟩; replace AX6 := hid (AX6.out.on hb); replace HN := hid (HN.out.on hb); replace kN := block_cell HN.out.cell; replace lN := lt_of_block HN.out.cell; have HQ := hid hq; clear hq hb)
    | (go_at_call 18; refine (ax_might AX6.out HQ.out (by decide) (by omega) E1.out).mono ?_; clear E1; rintro e w10 ⟨rfl, hax, hb⟩; replace AX6 := hid hax; replace HN := hid (HN.out.on hb); replace kN := block_cell HN.out.cell; replace lN := lt_of_block HN.out.cell; clear hb hax HQ)
    | (go_at_call 18; refine (ax_might AX6.out HQ.out (by decide) (by omega) E2.out).mono ?_; clear E2; rintro e w10 ⟨rfl, hax, hb⟩; replace AX6 := hid hax; replace HN := hid (HN.out.on hb); replace kN := block_cell HN.out.cell; replace lN := lt_of_block HN.out.cell; clear hb hax HQ)
    | (go_at_call 18; refine (ax_might AX6.out HQ.out (by decide) (by omega) E3.out).mono ?_; clear E3; rintro e w10 ⟨rfl, hax, hb⟩; replace AX6 := hid hax; replace HN := hid (HN.out.on hb); replace kN := block_cell HN.out.cell; replace lN := lt_of_block HN.out.cell; clear hb hax HQ)
    | (go_at_call 18; refine (ax_might AX6.out HQ.out (by decide) (by omega) E4.out).mono ?_; clear E4; rintro e w10 ⟨rfl, hax, hb⟩; replace AX6 := hid hax; replace HN := hid (HN.out.on hb); replace kN := block_cell HN.out.cell; replace lN := lt_of_block HN.out.cell; clear hb hax HQ)
    | (go_at_call 18; refine (ax_might AX6.out HN.out.qn (by decide) (by omega) E5.out).mono ?_; clear E5; rintro e w10 ⟨rfl, hax, hb⟩; replace AX6 := hid hax; replace HN := hid (HN.out.on hb); replace kN := block_cell HN.out.cell; replace lN := lt_of_block HN.out.cell; clear hb hax)
    | (go_at_call 18; refine (ax_might AX6.out HN.out.qn (by decide) (by omega) E6.out).mono ?_; clear E6; rintro e w10 ⟨rfl, hax, hb⟩; replace AX6 := hid hax; replace HN := hid (HN.out.on hb); replace kN := block_cell HN.out.cell; replace lN := lt_of_block HN.out.cell; clear hb hax)
    | (go_at_call 14; refine (ax_seen AX6.out (by decide) E7.out).mono ?_; clear E7; rintro e w11 ⟨rfl, rfl⟩)
    | (go_at_call 14; refine (ax_seen AX6.out (by decide) E8.out).mono ?_; clear E8; rintro e w11 ⟨rfl, rfl⟩))
  go_ret
  exact ⟨rfl, AX6.out.2⟩
end Go.Proofs.Ytmkilckoeaekkaa
