/-
  The walk of catchmentlaw02.TableAll.
-/
import Derived.Test.YtaccindmjaejdaaPO
import Derived.Test.YtaccindmjaejdaaQAllMath
import Derived.Test.YtaccindmjaejdaaQSameWalk
import Derived.Deep.CutRange
namespace Go.Proofs.Ytaccindmjaejdaa
open Go.RowKit Go.Sort Go.Shelf

theorem rcanonT {v : Value} {cs : List Cl} {rs : List Rw} {w : World} (hv : TabAt w v cs rs) :
    Calls Try.prog 18 #[v] w fun e w' => ∃ pc capc pr capr, e = .returned (.agg #[.slice pc cs.length capc, .slice pr rs.length capr]) ∧ TabAt w' (.agg #[.slice pc cs.length capc, .slice pr rs.length capr]) cs (sortR rs) ∧ Below w.heap.size w w' :=
  (rcanon_any hv).mono fun e w' ⟨v', he, ht, hb⟩ => by
    obtain ⟨pc, capc, pr, capr, e1⟩ := ht.form rfl (sortR_length rs)
    subst e1
    exact ⟨pc, capc, pr, capr, he, ht, hb⟩
theorem storedT {w w2 : World} {c r c' r' : Value} (hk : w2.heap[w.heap.size]? = some (.cells #[c, r] 25)) (hb : Below w.heap.size w w2) :
    ((w2.setCell ⟨w.heap.size, 0, none⟩ c').setCell ⟨w.heap.size, 1, none⟩ r').heap[w.heap.size]? = some (.cells #[c', r'] 25) ∧ Below w.heap.size w ((w2.setCell ⟨w.heap.size, 0, none⟩ c').setCell ⟨w.heap.size, 1, none⟩ r') :=
  ⟨Joins.block_setCell (i := 1) (Joins.block_setCell (i := 0) hk c') r', (hb.setCell (by simp) _).setCell (by simp) _⟩
theorem nmsOf_take {cs : List Cl} {k : Nat} (h : k < cs.length) : nmsOf (cs.take (k + 1)) = nmsOf (cs.take k) ++ [cs[k]!.nm] := by
  rw [List.take_add_one, List.getElem?_eq_getElem h, show cs[k]! = cs[k] from getElem!_pos cs k h]
  simp only [nmsOf, List.map_append, Option.toList_some, List.map_cons, List.map_nil]
theorem nmsOf_len (cs : List Cl) : (nmsOf cs).length = cs.length := by simp [nmsOf]
def turnA (c : Int) : Int := if c < 0 then -(c + 1) else c
theorem turnA_nn (c : Int) : 0 ≤ turnA c := by unfold turnA; split <;> omega
/- Keep, its table's value written out. -/
theorem keepT {t nv : Value} {cs ds : List Cl} {rs qs : List Rw} {ns : List ByteArray} {w : World} (ht : TabAt w t cs rs) (hn : NamesAt w nv ns) (hl : ns.length ≤ 4096) (h0 : keepE cs rs ns = 0) (hc : keepC cs rs ns = ds) (hr : keepR cs rs ns = qs) :
    Calls Try.prog 16 #[t, nv] w fun e w' => ∃ pc capc pr capr, e = .returned (.tuple #[.agg #[.slice pc ds.length capc, .slice pr qs.length capr], .int .i64 0]) ∧ TabAt w' (.agg #[.slice pc ds.length capc, .slice pr qs.length capr]) ds qs ∧ Below w.heap.size w w' :=
  (keep_any ht hn hl).mono fun e w' ⟨v', he, ht', hb⟩ => by
    rw [h0] at he
    rw [hc, hr] at ht'
    obtain ⟨pc, capc, pr, capr, e1⟩ := ht'.at.form rfl rfl
    subst e1
    exact ⟨pc, capc, pr, capr, he, ht'.at, hb⟩
theorem names_drop {w : World} {g n cap k : Nat} {ns : List ByteArray} (h : SlAt any encS 1 w (.slice (some ⟨g, 0, none⟩) n cap) ns) (hk : k ≤ n) : SlAt any encS 1 w (.slice (some ⟨g, k, none⟩) (n - k) (cap - k)) (ns.drop k) := by
  obtain ⟨p, c, hv, ⟨hc, hno⟩, hm, hx⟩ := h
  injection hv with e1 e2 e3
  subst e1 e2 e3
  refine ⟨_, _, by rw [List.length_drop], ⟨by rw [List.length_drop]; omega, fun e => by cases e⟩, by rw [List.length_drop]; omega, fun hne => ?_⟩
  have hne' : ns ≠ [] := by intro e; subst e; simp at hne
  obtain ⟨b, o, hp, hQ, hj⟩ := hx hne'
  injection hp with hp
  injection hp with hb ho
  subst hb ho
  refine ⟨g, k, rfl, ⟨trivial, ?_⟩, fun j x hjx => ?_⟩
  · have := hQ.2; rw [List.length_drop]; exact Nat.le_trans (Nat.mul_le_mul_right _ (by omega)) this
  · rw [List.getElem?_drop] at hjx
    have := hj (k + j) x hjx
    rw [Nat.zero_add, Nat.mul_one] at this
    rw [Nat.mul_one]; exact this
theorem Own.alloc1 {α : Type} {enc : α → List Value} {k e B : Nat} {w : World} {v : Value} {xs : List α} (h : Own enc k e B w v xs) (o : Obj) : Own enc k e B (w.alloc o) v xs := World.ownsRow.alloc h o
theorem Own.shape {α : Type} {enc : α → List Value} {k e B : Nat} {w : World} {v : Value} {xs : List α} (h : Own enc k e B w v xs) (hne : xs ≠ []) : ∃ g cap, v = .slice (some ⟨g, 0, none⟩) xs.length cap ∧ xs.length ≤ cap := by
  rcases h.2 with ⟨_, h0⟩ | ⟨g, cap, cur, hv, hg, hblk, hc, hm, _⟩
  · exact absurd (List.eq_nil_of_length_eq_zero h0) hne
  · exact ⟨g, cap, hv, hc⟩
theorem encS_len (s : ByteArray) : (encS s).length = 1 := rfl
theorem encS_cells (s : ByteArray) : ∀ c ∈ encS s, c.oneCell' = true := by intro c hc; simp [encS] at hc; subst hc; rfl
theorem one_name (w : World) (s : ByteArray) : SlAt any encS 1 (w.alloc (.cells #[.string s] 9)) (.slice (some ⟨w.heap.size, 0, none⟩) 1 1) [s] :=
  SlAt.imp (lit_sl (enc := encS) (k := 1) (xs := [s]) (alloc_block w _) (fun _ => rfl) rfl rfl (Nat.le_refl _) (by simp)) (fun _ _ => trivial)
set_option maxRecDepth 100000 in
set_option maxHeartbeats 4000000 in
theorem tall_ok {q p : Option Addr} {nc capc n m cap : Nat} {cs : List Cl} {rs' : List Rw} {n0 t : Int} {k : Nat} {w : World} (HT : Hid (TabAt w (.agg #[.slice q nc capc, .slice p m cap]) cs rs')) (hm : min n 200 = m) (HCAP : Hid (n ≤ cap)) (HCHK : Hid (checkV cs rs' = 0)) (HNC : Hid (cs.length = nc)) (HM : Hid (rs'.length = m)) (hnc : nc ≤ 16) (hk : k < nc)
    (hn0 : -9223372036854775808 ≤ n0) (hn1 : n0 ≤ 9223372036854775807) (ht0 : 0 ≤ t) (ht : turnA n0 = t) (hkt : t % (nc : Int) = k) :
    Calls Try.prog 3 #[.agg #[.slice q nc capc, .slice p n cap], .int .i64 n0] w fun e w' => e = .returned (.bool true) ∧ Below w.heap.size w w' := by
  have HB := hid ((Below.refl w.heap.size w).alloc (Nat.le_refl _) (.cells #[.slice q nc capc, .slice p n cap] 25))
  have KB := hid (alloc_block w (.cells #[.slice q nc capc, .slice p n cap] 25))
  have hmax : nc ≤ 16 := hnc
  have HMn := hid hm
  go_enter Try.func3, Try.ntmps3
  go_wp2_with (first
    | (go_at_call 13; refine shown_any.mono ?_; rintro e w1 ⟨rfl, hb1⟩; have HB1 := hid (below_on HB.out hb1); have KB1 := hid (block_on KB.out hb1); have kb1 := block_cell KB1.out; clear hb1)
    | (go_at_call 14; refine (cut_val HCAP.out).mono ?_; rintro e w2 ⟨rfl, hb2⟩; rw [HMn.out]; have HB2 := hid (below_on HB1.out hb2); have KB2 := hid (block_on KB1.out hb2); have kb2 := block_cell KB2.out; have zb2 := frozen_no KB2.out; clear hb2 kb1)
    | (go_at_call 15; have hst := storedT (c' := .slice q nc capc) (r' := .slice p m cap) KB2.out HB2.out; generalize World.setCell _ _ _ = W at *; obtain ⟨hkw, hbw⟩ := hst; refine (rcheck_is (HT.out.on hbw) HCHK.out).mono ?_; rintro e w4 ⟨rfl, hb4⟩; have KB4 := hid (block_on hkw hb4); have HB4 := hid (below_on hbw hb4); clear hb4 kb2 zb2 hkw hbw))
  have hT4 := HT.out.on HB4.out
  obtain ⟨c0, r0, he, hc, -⟩ := hT4
  simp only [Value.agg.injEq, Array.mk.injEq, List.cons.injEq, and_true] at he
  obtain ⟨rfl, rfl⟩ := he
  obtain ⟨q', capc', hq, -, -, hxc⟩ := hc
  injection hq with e1 e2 e3
  subst e1 e3
  have HXC := hid hxc
  clear hxc e2
  go_loopw [6, 7] (fun b i wr => ∃ j : Nat, j ≤ nc ∧ i = .int .i64 j ∧ Hid (Own encS 1 9 w4.heap.size wr b (nmsOf (cs.take j))) ∧ Hid (Below w4.heap.size w4 wr)) (fun _ i _ => nc - (intOf i).toNat)
  case atStart => exact ⟨0, by omega, rfl, Own.made encS 1 9 w4.heap.size w4 (Nat.le_refl _), (Below.refl _ _).alloc (Nat.le_refl _) _⟩
  case round =>
    obtain ⟨j, hj, rfl, HO, HBw⟩ := hrel
    have KBw := hid (block_on KB4.out HBw.out)
    have kbw := block_cell KBw.out
    have lbw := lt_of_block KBw.out
    by_cases hlt : j < nc
    · have hjc : j < cs.length := by rw [HNC.out]; exact hlt
      obtain ⟨b, o, rfl, -, hjj⟩ := HXC.out (by intro e; subst e; simp at hjc)
      obtain ⟨hc0, -⟩ := col_cells ((hjj j _ (get!_some hjc)).on HBw.out)
      have hlc := block_lt_of_cell hc0
      have HTK := hid (nmsOf_take hjc)
      have HLEN := hid (show (nmsOf (cs.take j)).length = j by rw [nmsOf_len, List.length_take]; omega)
      generalize cs[j]! = cc at hc0 HTK
      clear hjj
      go_wp2_with (at_builtin; refine app_any elem9 encS_len (fun y _ => encS_cells y) rfl _ _ rfl rfl (HO.out.alloc1 _) rfl (one_name wr cc.nm) (by rw [HLEN.out]; simp [bsz]; omega) (by have := HBw.out.size; rw [World.size_alloc]; omega) ?_; intro v2 w5 hown2 hb2)
      go_roundw
      case rel => exact ⟨j + 1, by omega, by go_num, by rw [← HTK.out] at hown2; exact hown2, HBw.out.trans (((Below.refl _ wr).alloc HBw.out.size _).trans hb2)⟩
      case measure => simp [intOf]; omega
    · obtain rfl : j = nc := by omega
      have hown := HO.out
      rw [List.take_of_length_le (by rw [HNC.out]; exact Nat.le_refl _)] at hown
      have hnl : (nmsOf cs).length = j := by rw [nmsOf_len]; exact HNC.out
      have hne : nmsOf cs ≠ [] := by intro e; rw [e] at hnl; simp at hnl; omega
      have hsl : SlAt any encS 1 wr u6 (nmsOf cs) := SlAt.imp (Own.sl hown encS_len (by rw [hnl]; simp [bsz]; omega)) (fun _ _ => trivial)
      obtain ⟨g, capn, hv6, hcn⟩ := hown.shape hne
      rw [hnl] at hv6 hcn
      subst hv6
      have HNM := hid hsl
      have HND := hid (names_drop (k := k) hsl (by omega))
      obtain ⟨k1, k2, k3⟩ := keep_all HCHK.out
      obtain ⟨t1, t2, t3, t4⟩ := keep_twice (k := k) HCHK.out (by rw [HNC.out]; exact hk)
      obtain ⟨s1, -, -⟩ := keep_from (k := k) HCHK.out (by rw [HNC.out]; exact hk)
      have K1 := hid k1
      have K2 := hid k2
      have K3 := hid k3
      have T1 := hid t1
      have T2 := hid t2
      have T3 := hid t3
      have T4 := hid (t4.trans HM.out)
      have S1 := hid s1
      have HL1 := hid (show (nmsOf cs).length ≤ 4096 by rw [hnl]; omega)
      have HL2 := hid (show ((nmsOf cs).drop k).length ≤ 4096 by rw [List.length_drop, hnl]; omega)
      have HTw := hid (HT.out.on (HB4.out.trans (HBw.out.mono HB4.out.size)))
      have HBq := hid (HB4.out.trans (HBw.out.mono HB4.out.size))
      have HSL := hid (sortR_length rs')
      clear k1 k2 k3 t1 t2 t3 t4 s1 hown hsl hne HO HB4 HBw KB4
      have M1 : Hid True := trivial
      go_wp2_with (first
        | (go_at_call 16; refine (keepT HTw.out HNM.out HL1.out K1.out K2.out K3.out).mono ?_; rintro e w6 ⟨pa, ca, pra, cra, rfl, hTa, hb6⟩; rw [HNC.out, HSL.out, HM.out] at hTa ⊢; have HTa := hid hTa; have HB6 := hid (below_on HBq.out hb6); have KB6 := hid (block_on KBw.out hb6); have HNM6 := hid (HND.out.on hb6); clear hTa hb6 kbw lbw M1))
      have hal := (Below.refl w6.heap.size w6).alloc (Nat.le_refl _) (.cells #[.slice pa j ca, .slice pra m cra] 25)
      have KA7 := hid (alloc_block w6 (.cells #[.slice pa j ca, .slice pra m cra] 25))
      have KB7 := hid (block_on KB6.out hal)
      have HTa7 := hid (HTa.out.on hal)
      have HB7 := hid (below_on HB6.out hal)
      have HNM7 := hid (HNM6.out.on hal)
      clear hal HTa HNM6 HB6 KB6
      have hl6 : w.heap.size < w6.heap.size + 1 := by have := lt_of_block KB7.out; simpa using this
      generalize hW7 : World.alloc w6 _ = W7 at *
      clear hW7
      generalize w6.heap.size = ba at *
      have ka7 := block_cell KA7.out
      have kb7 := block_cell KB7.out
      have la7 := lt_of_block KA7.out
      have lb7 := lt_of_block KB7.out
      go_cut [10] from 47 to 50 (fun s wx => s = .bool true ∧ Hid (Below W7.heap.size W7 wx))
      case first =>
        go_region_with (first
          | (go_at_call 18; refine (rcanonT ((HT.out.on HB7.out).on (Below.refl _ _).drew)).mono ?_; rintro e w8 ⟨pc8, cc8, pr8, cr8, rfl, hT8, hb8⟩; have HT8 := hid hT8; have HB8 := hid ((Below.refl W7.heap.size W7).drew.trans hb8); have ka8 := block_cell (block_on KA7.out HB8.out); have kb8 := block_cell (block_on KB7.out HB8.out); clear hT8 hb8)
          | (go_at_call 17; refine (rsame_is (HTa7.out.on HB8.out) HT8.out (sameB_self cs (sortR rs'))).mono ?_; rintro e w9 ⟨rfl, hb9⟩; have HB9 := hid (below_on HB8.out hb9); clear hb9))
        all_goals
          go_wp2_with fail
          go_meet
          case rel => exact ⟨rfl, HB9.out⟩
      case rest =>
        obtain ⟨rfl, HX⟩ := hcut
        have HBx := hid (below_on HB7.out HX.out)
        have HTx := hid (HTa7.out.on HX.out)
        have HNx := hid (HNM7.out.on HX.out)
        have KAx := hid (block_on KA7.out HX.out)
        have KBx := hid (block_on KB7.out HX.out)
        have kax := block_cell KAx.out
        have kbx := block_cell KBx.out
        clear ka7 kb7 la7 lb7 HTa7 HNM7 KA7 KB7 HB7 HX
        have hcne : ¬ capn = k := by omega
        by_cases hneg : n0 < 0
        · have ht' : -(n0 + 1) = t := by rw [← ht]; unfold turnA; rw [if_pos hneg]
          clear ht
          have M2 : Hid True := trivial
          go_wp2_with (first
            | (go_at_call 16; have FIRST := M2; refine (keepT HTx.out HNx.out HL2.out T1.out T2.out T3.out).mono ?_; rintro e w10 ⟨pb, cb, prb, crb, rfl, hTb, hb10⟩; rw [T4.out] at hTb ⊢; have S10 := hid (hb10.trans ((Below.refl w10.heap.size w10).alloc (Nat.le_refl _) (.cells #[.slice pb (keepC cs rs' ((nmsOf cs).drop k)).length cb, .slice prb m crb] 25) |>.mono hb10.size)); have HTb := hid (hTb.on ((Below.refl _ w10).alloc (Nat.le_refl _) (.cells #[.slice pb (keepC cs rs' ((nmsOf cs).drop k)).length cb, .slice prb m crb] 25))); have KB10 := hid (block_on KBx.out S10.out); have HB10 := hid (below_on HBx.out S10.out); have HN10 := hid (HNx.out.on S10.out); have KC10 := hid (alloc_block w10 (.cells #[.slice pb (keepC cs rs' ((nmsOf cs).drop k)).length cb, .slice prb m crb] 25)); have kb10 := block_cell KB10.out; clear hTb hb10 M2 FIRST kax kbx; have M3 : Hid True := trivial)
            | (go_at_call 16; have FIRST := M3; refine (keepT (HT.out.on HB10.out) HN10.out HL2.out S1.out rfl rfl).mono ?_; rintro e w11 ⟨pd, cd, prd, crd, rfl, hTd, hb11⟩; rw [T4.out] at hTd ⊢; have S11 := hid (hb11.trans ((Below.refl w11.heap.size w11).alloc (Nat.le_refl _) (.cells #[.slice pd (keepC cs rs' ((nmsOf cs).drop k)).length cd, .slice prd m crd] 25) |>.mono hb11.size)); have HTd := hid (hTd.on ((Below.refl _ w11).alloc (Nat.le_refl _) (.cells #[.slice pd (keepC cs rs' ((nmsOf cs).drop k)).length cd, .slice prd m crd] 25))); have KC11 := hid (block_on KC10.out S11.out); have KB11 := hid (block_on KB10.out S11.out); have KD11 := hid (alloc_block w11 (.cells #[.slice pd (keepC cs rs' ((nmsOf cs).drop k)).length cd, .slice prd m crd] 25)); have HTb11 := hid (HTb.out.on S11.out); have HB11 := hid (below_on HB10.out S11.out); have kc11 := block_cell KC11.out; have lc11 := lt_of_block KC11.out; clear hTd hb11 M3 FIRST kb10)
            | (go_at_call 17; refine (rsame_is HTb11.out HTd.out (sameB_self _ _)).mono ?_; rintro e w12 ⟨rfl, hb12⟩; have HB12 := hid (below_on HB11.out hb12); have kc12 := block_cell (block_on KC11.out hb12); have kb12 := block_cell (block_on KB11.out hb12); clear hb12 kc11))
          go_ret
          exact ⟨rfl, HB12.out⟩
        · have ht' : n0 = t := by rw [← ht]; unfold turnA; rw [if_neg hneg]
          subst ht'
          clear ht
          have M2 : Hid True := trivial
          go_wp2_with (first
            | (go_at_call 16; have FIRST := M2; refine (keepT HTx.out HNx.out HL2.out T1.out T2.out T3.out).mono ?_; rintro e w10 ⟨pb, cb, prb, crb, rfl, hTb, hb10⟩; rw [T4.out] at hTb ⊢; have S10 := hid (hb10.trans ((Below.refl w10.heap.size w10).alloc (Nat.le_refl _) (.cells #[.slice pb (keepC cs rs' ((nmsOf cs).drop k)).length cb, .slice prb m crb] 25) |>.mono hb10.size)); have HTb := hid (hTb.on ((Below.refl _ w10).alloc (Nat.le_refl _) (.cells #[.slice pb (keepC cs rs' ((nmsOf cs).drop k)).length cb, .slice prb m crb] 25))); have KB10 := hid (block_on KBx.out S10.out); have HB10 := hid (below_on HBx.out S10.out); have HN10 := hid (HNx.out.on S10.out); have KC10 := hid (alloc_block w10 (.cells #[.slice pb (keepC cs rs' ((nmsOf cs).drop k)).length cb, .slice prb m crb] 25)); have kb10 := block_cell KB10.out; clear hTb hb10 M2 FIRST kax kbx; have M3 : Hid True := trivial)
            | (go_at_call 16; have FIRST := M3; refine (keepT (HT.out.on HB10.out) HN10.out HL2.out S1.out rfl rfl).mono ?_; rintro e w11 ⟨pd, cd, prd, crd, rfl, hTd, hb11⟩; rw [T4.out] at hTd ⊢; have S11 := hid (hb11.trans ((Below.refl w11.heap.size w11).alloc (Nat.le_refl _) (.cells #[.slice pd (keepC cs rs' ((nmsOf cs).drop k)).length cd, .slice prd m crd] 25) |>.mono hb11.size)); have HTd := hid (hTd.on ((Below.refl _ w11).alloc (Nat.le_refl _) (.cells #[.slice pd (keepC cs rs' ((nmsOf cs).drop k)).length cd, .slice prd m crd] 25))); have KC11 := hid (block_on KC10.out S11.out); have KB11 := hid (block_on KB10.out S11.out); have KD11 := hid (alloc_block w11 (.cells #[.slice pd (keepC cs rs' ((nmsOf cs).drop k)).length cd, .slice prd m crd] 25)); have HTb11 := hid (HTb.out.on S11.out); have HB11 := hid (below_on HB10.out S11.out); have kc11 := block_cell KC11.out; have lc11 := lt_of_block KC11.out; clear hTd hb11 M3 FIRST kb10)
            | (go_at_call 17; refine (rsame_is HTb11.out HTd.out (sameB_self _ _)).mono ?_; rintro e w12 ⟨rfl, hb12⟩; have HB12 := hid (below_on HB11.out hb12); have kc12 := block_cell (block_on KC11.out hb12); have kb12 := block_cell (block_on KB11.out hb12); clear hb12 kc11))
          go_ret
          exact ⟨rfl, HB12.out⟩
set_option maxRecDepth 100000 in
set_option maxHeartbeats 1000000 in
theorem tall_any {v : Value} {cs : List Cl} {rs : List Rw} {n0 : Int} {w : World} (hT : TabAt w v cs rs) (hn : -9223372036854775808 ≤ n0 ∧ n0 ≤ 9223372036854775807) :
    Calls Try.prog 3 #[v, .int .i64 n0] w fun e w' => e = .returned (.bool true) ∧ Below w.heap.size w w' := by
  obtain ⟨q, nc, capc, p, n, cap, rfl, hcap, hcut⟩ := hT.cuts
  generalize rs.take 200 = rs' at hcut
  clear hT
  by_cases hchk : checkV cs rs' = 0
  · have hf := hcut
    obtain ⟨c0, r0, he, hc, hs, hr, hh⟩ := hf
    simp only [Value.agg.injEq, Array.mk.injEq, List.cons.injEq, and_true] at he
    obtain ⟨rfl, rfl⟩ := he
    obtain ⟨q', capc', hq, -⟩ := hc
    obtain ⟨p', cap', hp, -⟩ := hr
    injection hq with _ e2 _
    injection hp with _ e5 _
    have hcl := check_colsB hchk
    have hpos := cols_some hcl
    have h16 : cs.length ≤ 16 := by simp only [colsB, decide_eq_true_eq] at hcl; exact hcl.1.2
    have ht0 := turnA_nn n0
    have m0 := Int.emod_nonneg (turnA n0) (b := (nc : Int)) (by omega)
    have m1 := Int.emod_lt_of_pos (turnA n0) (b := (nc : Int)) (by omega)
    exact tall_ok (k := (turnA n0 % (nc : Int)).toNat) hcut rfl hcap hchk e2.symm (by rw [← hh.1]; exact e5.symm) (by omega) (by omega) hn.1 hn.2 ht0 rfl (by omega)
  · have HT := hid hcut
    have HCAP := hid hcap
    have HB := hid ((Below.refl w.heap.size w).alloc (Nat.le_refl _) (.cells #[.slice q nc capc, .slice p n cap] 25))
    have KB := hid (alloc_block w (.cells #[.slice q nc capc, .slice p n cap] 25))
    generalize hz : checkV cs rs' = z at *
    have HZ := hid hz
    have hne : (z != 0) = true := by simpa using hchk
    clear hz hchk hcut hcap
    generalize hm : min n 200 = m at *
    have HMn := hid hm
    clear hm
    go_enter Try.func3, Try.ntmps3
    go_wp2_with (first
      | (go_at_call 13; refine shown_any.mono ?_; rintro e w1 ⟨rfl, hb1⟩; have HB1 := hid (below_on HB.out hb1); have KB1 := hid (block_on KB.out hb1); have kb1 := block_cell KB1.out; clear hb1)
      | (go_at_call 14; refine (cut_val HCAP.out).mono ?_; rintro e w2 ⟨rfl, hb2⟩; rw [HMn.out]; have HB2 := hid (below_on HB1.out hb2); have KB2 := hid (block_on KB1.out hb2); have kb2 := block_cell KB2.out; have zb2 := frozen_no KB2.out; clear hb2 kb1)
      | (go_at_call 15; have hst := storedT (c' := .slice q nc capc) (r' := .slice p m cap) KB2.out HB2.out; generalize World.setCell _ _ _ = W at *; obtain ⟨hkw, hbw⟩ := hst; refine (rcheck_is (HT.out.on hbw) HZ.out).mono ?_; rintro e w4 ⟨rfl, hb4⟩; have HB4 := hid (below_on hbw hb4); clear hb4 kb2 zb2 hkw hbw))
    go_ret
    exact ⟨rfl, HB4.out⟩
end Go.Proofs.Ytaccindmjaejdaa
