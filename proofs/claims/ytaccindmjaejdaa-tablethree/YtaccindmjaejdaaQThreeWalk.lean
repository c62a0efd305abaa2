/-
  The walk of catchmentlaw02.TableThree.
-/
import Derived.Test.YtaccindmjaejdaaPO
import Derived.Test.YtaccindmjaejdaaQAllWalk
import Derived.Test.YtaccindmjaejdaaQThreeMath
import Derived.Deep.CutRange
namespace Go.Proofs.Ytaccindmjaejdaa
open Go.RowKit Go.Sort Go.Shelf

/- Union, its table's value written out. -/
theorem unionT {s t : Value} {cs : List Cl} {rs qs us : List Rw} {nc k : Nat} {w : World} (hs : TabAt w s cs rs) (ht : TabAt w t cs qs) (hl : rs.length + qs.length ≤ 4096) (h1 : checkV cs rs = 0) (h2 : checkV cs qs = 0) (hu : sortR (rs ++ qs) = us) (hc : cs.length = nc) (hk : us.length = k) :
    Calls Try.prog 19 #[s, t] w fun e w' => ∃ pc capc pr capr, e = .returned (.tuple #[.agg #[.slice pc nc capc, .slice pr k capr], .int .i64 0]) ∧ TabIn (fun b => w.heap.size ≤ b) w' (.agg #[.slice pc nc capc, .slice pr k capr]) cs us ∧ Below w.heap.size w w' :=
  (union_any hs ht hl).mono fun e w' ⟨v', he, ht', hb⟩ => by
    obtain ⟨e1, e2, e3⟩ := union_ok h1 h2
    rw [e1] at he
    rw [e2, e3, hu] at ht'
    obtain ⟨pc, capc, pr, capr, e1⟩ := ht'.at.form hc hk
    subst e1
    exact ⟨pc, capc, pr, capr, he, ht', hb⟩
theorem TabAt.three {w : World} {c : Value} {p : Option Addr} {m cap y1 y2 : Nat} {cs : List Cl} {rs : List Rw} (h : TabAt w (.agg #[c, .slice p m cap]) cs rs) (h1 : y1 ≤ y2) (h2 : y2 ≤ m) :
    TabAt w (.agg #[c, .slice p y1 cap]) cs (rs.take y1) ∧ TabAt w (.agg #[c, .slice (if cap = y1 then p else Option.map (fun x => x.add y1) p) (y2 - y1) (cap - y1)]) cs ((rs.drop y1).take (y2 - y1)) ∧ TabAt w (.agg #[c, .slice (if cap = y2 then p else Option.map (fun x => x.add y2) p) (m - y2) (cap - y2)]) cs (rs.drop y2) := by
  obtain ⟨c0, r0, he, hc, hs, hr, hh⟩ := h
  simp only [Value.agg.injEq, Array.mk.injEq, List.cons.injEq, and_true] at he
  obtain ⟨rfl, rfl⟩ := he
  exact ⟨⟨_, _, rfl, hc, _, hr.take y1 (by omega), hh.take y1⟩, ⟨_, _, rfl, hc, _, (hr.drop rfl y1 (by omega)).take (y2 - y1) (by omega), (hh.drop y1).take _⟩, ⟨_, _, rfl, hc, _, hr.drop rfl y2 h2, hh.drop y2⟩⟩
theorem mem_mid {rs : List Rw} {i k : Nat} : ∀ r ∈ (rs.drop i).take k, r ∈ rs := fun _ h => List.mem_of_mem_drop (List.mem_of_mem_take h)
theorem put2 {w w2 : World} {B b : Nat} {c r c' r' : Value} (hk : w2.heap[b]? = some (.cells #[c, r] 25)) (hb : Below B w w2) (h : B ≤ b) :
    ((w2.setCell ⟨b, 0, none⟩ c').setCell ⟨b, 1, none⟩ r').heap[b]? = some (.cells #[c', r'] 25) ∧ Below B w ((w2.setCell ⟨b, 0, none⟩ c').setCell ⟨b, 1, none⟩ r') :=
  ⟨Joins.block_setCell (i := 1) (Joins.block_setCell (i := 0) hk c') r', (hb.setCell h _).setCell h _⟩
theorem set2T {w2 : World} {B b : Nat} {c r v : Value} {cs : List Cl} {rs : List Rw} (h : TabIn (fun x => B ≤ x) w2 v cs rs) (hb : b < B) : TabAt ((w2.setCell ⟨b, 0, none⟩ c).setCell ⟨b, 1, none⟩ r) v cs rs :=
  (TabIn.set (fun x hx => by omega) (TabIn.set (fun x hx => by omega) h)).at
theorem Below.on_drew {B : Nat} {w w' : World} (h : Below B w w') : Below B w w'.drew := h.drew
theorem storedT2 {w w2 : World} {c r c' r' : Value} {o : Obj} (hk : w2.heap[w.heap.size]? = some (.cells #[c, r] 25)) (hb : Below w.heap.size w w2) (ho : w2.heap[w.heap.size + 1]? = some o) :
    ((w2.setCell ⟨w.heap.size, 0, none⟩ c').setCell ⟨w.heap.size, 1, none⟩ r').heap[w.heap.size]? = some (.cells #[c', r'] 25) ∧ Below w.heap.size w ((w2.setCell ⟨w.heap.size, 0, none⟩ c').setCell ⟨w.heap.size, 1, none⟩ r') ∧ ((w2.setCell ⟨w.heap.size, 0, none⟩ c').setCell ⟨w.heap.size, 1, none⟩ r').heap[w.heap.size + 1]? = some o :=
  ⟨(storedT hk hb).1, (storedT hk hb).2, heap_set2 (heap_set2 ho (by omega)) (by omega)⟩
def atC (m : Nat) (x1 x2 : Nat) (j : Nat) : Array Value := #[.int .i64 0, .int .i64 (if 1 ≤ j then x1 else 0 : Nat), .int .i64 (if 2 ≤ j then x2 else 0 : Nat), .int .i64 m]
set_option maxRecDepth 100000 in
set_option maxHeartbeats 4000000 in
theorem tthree_ok {q p : Option Addr} {nc capc n m cap : Nat} {cs : List Cl} {rs' : List Rw} {c0 c1 t0 t1 : Int} {x1 x2 : Nat} {w : World} (HT : Hid (TabAt w (.agg #[.slice q nc capc, .slice p m cap]) cs rs')) (hm : min n 200 = m) (HCAP : Hid (n ≤ cap)) (HCHK : Hid (checkV cs rs' = 0)) (HNC : Hid (cs.length = nc)) (HM : Hid (rs'.length = m)) (hm200 : m ≤ 200)
    (ha0 : -9223372036854775808 ≤ c0) (ha1 : c0 ≤ 9223372036854775807) (hd0 : -9223372036854775808 ≤ c1) (hd1 : c1 ≤ 9223372036854775807) (ht0 : 0 ≤ t0) (ht1 : 0 ≤ t1) (HT0 : Hid (turnA c0 = t0)) (HT1 : Hid (turnA c1 = t1)) (h1 : t0 % ((m : Int) + 1) = x1) (h2 : t1 % ((m : Int) + 1) = x2) (HX1 : Hid (x1 ≤ m)) (HX2 : Hid (x2 ≤ m)) :
    Calls Try.prog 4 #[.agg #[.slice q nc capc, .slice p n cap], .agg #[.int .i64 c0, .int .i64 c1]] w fun e w' => e = .returned (.bool true) ∧ Below w.heap.size w w' := by
  have HB := hid (((Below.refl w.heap.size w).alloc (Nat.le_refl _) (.cells #[.slice q nc capc, .slice p n cap] 25)).alloc (by simp) (.cells #[.int .i64 c0, .int .i64 c1] 37))
  have KB := hid (block_on (alloc_block w (.cells #[.slice q nc capc, .slice p n cap] 25)) ((Below.refl _ _).alloc (Nat.le_refl _) (.cells #[.int .i64 c0, .int .i64 c1] 37)))
  have KC := hid (alloc_block (w.alloc (.cells #[.slice q nc capc, .slice p n cap] 25)) (.cells #[.int .i64 c0, .int .i64 c1] 37))
  rw [World.size_alloc] at KC
  have HMn := hid hm
  go_enter Try.func4, Try.ntmps4
  go_wp2_with (first
    | (go_at_call 13; refine shown_any.mono ?_; rintro e w1 ⟨rfl, hb1⟩; have HB1 := hid (below_on HB.out hb1); have KB1 := hid (block_on KB.out hb1); have KC1 := hid (block_on KC.out hb1); have kb1 := block_cell KB1.out; clear hb1)
    | (go_at_call 14; refine (cut_val HCAP.out).mono ?_; rintro e w2 ⟨rfl, hb2⟩; rw [HMn.out]; have HB2 := hid (below_on HB1.out hb2); have KB2 := hid (block_on KB1.out hb2); have KC2 := hid (block_on KC1.out hb2); have kb2 := block_cell KB2.out; have zb2 := frozen_no KB2.out; clear hb2 kb1)
    | (go_at_call 15; have hst := storedT2 (c' := .slice q nc capc) (r' := .slice p m cap) KB2.out HB2.out KC2.out; generalize World.setCell _ _ _ = W at *; obtain ⟨hkw, hbw, hcw⟩ := hst; refine (rcheck_is (HT.out.on hbw) HCHK.out).mono ?_; rintro e w4 ⟨rfl, hb4⟩; have KB4 := hid (block_on hkw hb4); have KC4 := hid (block_on hcw hb4); have HB4 := hid (below_on hbw hb4); have kb4 := block_cell KB4.out; have lb4 := lt_of_block KB4.out; clear hb4 kb2 zb2 hkw hbw hcw))
  go_loopw [7, 8] (fun i _ wr => ∃ j : Nat, j ≤ 2 ∧ i = .int .i64 j ∧ Hid (wr.heap[w4.heap.size]? = some (.cells (atC m x1 x2 j) 3)) ∧ Hid (Below w4.heap.size w4 wr)) (fun i _ _ => 2 - (intOf i).toNat)
  case atStart => exact ⟨0, by omega, rfl, alloc_block w4 _, (Below.refl _ _).alloc (Nat.le_refl _) _⟩
  case round =>
    obtain ⟨j, hj, rfl, KA, HBw⟩ := hrel
    have KBw := hid (block_on KB4.out HBw.out)
    have KCw := hid (block_on KC4.out HBw.out)
    have kbw := block_cell KBw.out
    have kcw := block_cell KCw.out
    have zaw := frozen_no KA.out
    have law := lt_of_block KA.out
    have hpos : (m : Int) + 1 ≠ 0 := by omega
    have hj3 : j = 0 ∨ j = 1 ∨ j = 2 := by omega
    clear kb4
    rcases hj3 with rfl | rfl | rfl
    · have kaw := block_cell (show wr.heap[w4.heap.size]? = some (.cells #[.int .i64 0, .int .i64 0, .int .i64 0, .int .i64 m] 3) from KA.out)
      by_cases hneg : c0 < 0
      · have ht' : -(c0 + 1) = t0 := by rw [← HT0.out]; unfold turnA; rw [if_pos hneg]
        go_wp2_with fail
        go_roundw
        case rel => exact ⟨1, by omega, by go_num, Joins.block_setCell KA.out _, HBw.out.setCell (Nat.le_refl _) _⟩
        case measure => simp [intOf]
      · have ht' : c0 = t0 := by rw [← HT0.out]; unfold turnA; rw [if_neg hneg]
        subst ht'
        go_wp2_with fail
        go_roundw
        case rel => exact ⟨1, by omega, by go_num, Joins.block_setCell KA.out _, HBw.out.setCell (Nat.le_refl _) _⟩
        case measure => simp [intOf]
    · have kaw := block_cell (show wr.heap[w4.heap.size]? = some (.cells #[.int .i64 0, .int .i64 x1, .int .i64 0, .int .i64 m] 3) from KA.out)
      by_cases hneg : c1 < 0
      · have ht' : -(c1 + 1) = t1 := by rw [← HT1.out]; unfold turnA; rw [if_pos hneg]
        go_wp2_with fail
        go_roundw
        case rel => exact ⟨2, by omega, by go_num, Joins.block_setCell KA.out _, HBw.out.setCell (Nat.le_refl _) _⟩
        case measure => simp [intOf]
      · have ht' : c1 = t1 := by rw [← HT1.out]; unfold turnA; rw [if_neg hneg]
        subst ht'
        go_wp2_with fail
        go_roundw
        case rel => exact ⟨2, by omega, by go_num, Joins.block_setCell KA.out _, HBw.out.setCell (Nat.le_refl _) _⟩
        case measure => simp [intOf]
    · have KA2 := hid (show wr.heap[w4.heap.size]? = some (.cells #[.int .i64 0, .int .i64 x1, .int .i64 x2, .int .i64 m] 3) from KA.out)
      have kaw := block_cell KA2.out
      clear KA
      go_wp2_with fail
      go_region
      go_upto_if 59 with fail
      go_cut [] from 60 to 69 (fun wx => ∃ y1 y2 : Nat, y1 ≤ y2 ∧ y2 ≤ m ∧ Hid (wx.heap[w4.heap.size]? = some (.cells #[.int .i64 0, .int .i64 y1, .int .i64 y2, .int .i64 m] 3)) ∧ Hid (Below w4.heap.size w4 wx))
      case first =>
        by_cases hlt : x2 < x1
        · go_wp2_with fail
          go_region
          go_wp2_with fail
          go_meet
          case rel => exact ⟨x2, x1, by omega, HX1.out, Joins.block_setCell (i := 2) (Joins.block_setCell (i := 1) KA2.out (.int .i64 x2)) (.int .i64 x1), (((HBw.out).drew.drew).setCell (p := ⟨w4.heap.size, 1, none⟩) (Nat.le_refl _) _).setCell (p := ⟨w4.heap.size, 2, none⟩) (Nat.le_refl _) _⟩
        · go_wp2_with fail
          go_meet
          case rel => exact ⟨x1, x2, by omega, HX2.out, KA2.out, HBw.out.drew⟩
      case rest =>
        obtain ⟨y1, y2, hy1, hy2, KAc, HBc⟩ := hcut
        obtain ⟨v0, rfl⟩ : ∃ x, x = wc := ⟨_, rfl⟩
        have KBc := hid (block_on KB4.out HBc.out)
        have kbc := block_cell KBc.out
        have kac := block_cell KAc.out
        have lac := lt_of_block KAc.out
        have lbc := lt_of_block KBc.out
        have hyc : y1 ≤ cap := by have := HCAP.out; omega
        have hyd : y2 ≤ cap := by have := HCAP.out; omega
        clear kaw kbw kcw zaw law HBw KA2 KBw KCw
        go_wp2_with fail
        go_cut [9] from 70 to 78 (fun s wx => s = .pointer (some ⟨v0.heap.size, 0, none⟩) ∧ Hid (wx.heap[v0.heap.size]? = some (.cells #[.slice q nc capc, .slice p y1 cap] 25)) ∧ Hid (Below v0.heap.size v0 wx))
        case first =>
          go_region
          all_goals
            go_wp2_with fail
            go_meet
          case rel => exact ⟨rfl, alloc_block v0 _, ((Below.refl _ _).alloc (Nat.le_refl _) _).drew⟩
        case rest =>
          obtain ⟨rfl, KP5, S5⟩ := hcut
          obtain ⟨v1, rfl⟩ : ∃ x, x = wc := ⟨_, rfl⟩
          have KB5 := hid (block_on KBc.out S5.out)
          have KA5 := hid (block_on KAc.out S5.out)
          have kb5 := block_cell KB5.out
          have ka5 := block_cell KA5.out
          have lb5 := lt_of_block KB5.out
          have la5 := lt_of_block KA5.out
          clear kbc kac lbc lac
          go_wp2_with fail
          go_cut [10] from 79 to 90 (fun s wx => s = .pointer (some ⟨v1.heap.size, 0, none⟩) ∧ Hid (wx.heap[v1.heap.size]? = some (.cells #[.slice q nc capc, .slice (if cap = y1 then p else Option.map (fun x => x.add y1) p) (y2 - y1) (cap - y1)] 25)) ∧ Hid (Below v1.heap.size v1 wx))
          case first =>
            rcases Decidable.em (cap = y1) with rfl | hcy
            · go_region
              all_goals
                go_wp2_with fail
                go_meet
              case rel => exact ⟨rfl, by first | exact alloc_block v1 _ | (simp only [↓reduceIte, Nat.sub_self, Nat.sub_eq_zero_of_le hyd]; exact alloc_block v1 _), ((Below.refl _ _).alloc (Nat.le_refl _) _).drew⟩
            · go_region
              all_goals
                go_wp2_with fail
                go_meet
              case rel => exact ⟨rfl, by rw [if_neg hcy]; exact alloc_block v1 _, ((Below.refl _ _).alloc (Nat.le_refl _) _).drew⟩
          case rest =>
            obtain ⟨rfl, KQ6, S6⟩ := hcut
            obtain ⟨v2, rfl⟩ : ∃ x, x = wc := ⟨_, rfl⟩
            have KB6 := hid (block_on KB5.out S6.out)
            have KA6 := hid (block_on KA5.out S6.out)
            have kb6 := block_cell KB6.out
            have ka6 := block_cell KA6.out
            have lb6 := lt_of_block KB6.out
            have la6 := lt_of_block KA6.out
            clear kb5 ka5 lb5 la5
            go_wp2_with fail
            go_cut [11] from 91 to 99 (fun s wx => s = .pointer (some ⟨v2.heap.size, 0, none⟩) ∧ Hid (wx.heap[v2.heap.size]? = some (.cells #[.slice q nc capc, .slice (if cap = y2 then p else Option.map (fun x => x.add y2) p) (m - y2) (cap - y2)] 25)) ∧ Hid (Below v2.heap.size v2 wx))
            case first =>
              rcases Decidable.em (cap = y2) with rfl | hcy
              · go_region
                all_goals
                  go_wp2_with fail
                  go_meet
                case rel => exact ⟨rfl, by first | exact alloc_block v2 _ | (simp only [↓reduceIte, Nat.sub_self]; exact alloc_block v2 _), ((Below.refl _ _).alloc (Nat.le_refl _) _).drew⟩
              · go_region
                all_goals
                  go_wp2_with fail
                  go_meet
                case rel => exact ⟨rfl, by rw [if_neg hcy]; exact alloc_block v2 _, ((Below.refl _ _).alloc (Nat.le_refl _) _).drew⟩
            case rest =>
              obtain ⟨rfl, KR, S7⟩ := hcut
              obtain ⟨v3, rfl⟩ : ∃ x, x = wc := ⟨_, rfl⟩
              have KB7 := hid (block_on KB6.out S7.out)
              have KQ := hid (block_on KQ6.out S7.out)
              have KP := hid (block_on (block_on KP5.out S6.out) S7.out)
              have HBall := hid (below_on (below_on (below_on (below_on HB4.out (HBc.out.mono (Nat.le_refl _))) S5.out) S6.out) S7.out)
              obtain ⟨T1, T2, T3⟩ := (HT.out.on HBall.out).three hy1 hy2
              have HT1 := hid T1
              have HT2 := hid T2
              have HT3 := hid T3
              have HTall := hid (HT.out.on HBall.out)
              clear kb6 ka6 lb6 la6 T1 T2 T3 KA6 KA5 KAc KB6 KB5 KBc KQ6 KP5 S5 S6 S7
              generalize v0.heap.size = bp at *
              generalize v1.heap.size = bq at *
              generalize v2.heap.size = br at *
              generalize hP1 : (if cap = y1 then p else Option.map (fun x => x.add y1) p) = P1 at *
              generalize hP2 : (if cap = y2 then p else Option.map (fun x => x.add y2) p) = P2 at *
              have hA : (rs'.take y1).length = y1 := by rw [List.length_take, HM.out]; omega
              have hQ : ((rs'.drop y1).take (y2 - y1)).length = y2 - y1 := by rw [List.length_take, List.length_drop, HM.out]; omega
              have hC : (rs'.drop y2).length = m - y2 := by rw [List.length_drop, HM.out]
              have cA := check_sub (qs := rs'.take y1) HCHK.out fun r h => List.mem_of_mem_take h
              have cQ := check_sub (qs := (rs'.drop y1).take (y2 - y1)) HCHK.out mem_mid
              have cC := check_sub (qs := rs'.drop y2) HCHK.out fun r h => List.mem_of_mem_drop h
              have cU := check_app (rs := rs'.take y1) (qs := (rs'.drop y1).take (y2 - y1)) HCHK.out (fun r h => List.mem_of_mem_take h) mem_mid
              have cV := check_app (rs := (rs'.drop y1).take (y2 - y1)) (qs := rs'.drop y2) HCHK.out mem_mid (fun r h => List.mem_of_mem_drop h)
              have e1 := three_left (rs := rs') hy1
              have e2 := three_right (rs := rs') hy1
              have lU : (sortR (rs'.take y1 ++ (rs'.drop y1).take (y2 - y1))).length = y2 := by rw [sortR_length, List.length_append, hA, hQ]; omega
              have lV : (sortR ((rs'.drop y1).take (y2 - y1) ++ rs'.drop y2)).length = m - y1 := by rw [sortR_length, List.length_append, hQ, hC]; omega
              have lS : (sortR rs').length = m := by rw [sortR_length, HM.out]
              generalize hLA : rs'.take y1 = LA at *
              generalize hLQ : (rs'.drop y1).take (y2 - y1) = LQ at *
              generalize hLC : rs'.drop y2 = LC at *
              generalize hLU : sortR (LA ++ LQ) = LU at *
              generalize hLV : sortR (LQ ++ LC) = LV at *
              generalize hLS : sortR rs' = LS at *
              have HA := hid hA
              have HQ := hid hQ
              have HC := hid hC
              have CA := hid cA
              have CQ := hid cQ
              have CC := hid cC
              have CU := hid cU
              have CV := hid cV
              have E1 := hid e1
              have E2 := hid e2
              have LU1 := hid lU
              have LV1 := hid lV
              have LS1 := hid lS
              have HLU := hid hLU
              have HLV := hid hLV
              have HLS := hid hLS
              clear hA hQ hC cA cQ cC cU cV e1 e2 lU lV lS hLA hLQ hLC hLU hLV hLS hP1 hP2
              have kp := block_cell KP.out
              have kq := block_cell KQ.out
              go_upto_region 18 with fail
              go_cut [12, 13] from 100 to 105 (fun s e wx => ∃ ba pc cc pr cr, s = .pointer (some ⟨ba, 0, none⟩) ∧ e = .int .i64 0 ∧ Hid (v3.heap.size ≤ ba) ∧ Hid (wx.heap[ba]? = some (.cells #[.slice pc nc cc, .slice pr y2 cr] 25)) ∧ Hid (TabAt wx (.agg #[.slice pc nc cc, .slice pr y2 cr]) cs LU) ∧ Hid (Below v3.heap.size v3 wx))
              case first =>
                go_wp2_with (go_at_call 19; refine (unionT HT1.out HT2.out (by rw [HA.out, HQ.out]; omega) CA.out CQ.out HLU.out HNC.out LU1.out).mono ?_; rintro e w9 ⟨pa, ca, pra, cra, rfl, hTa, hb9⟩; have HTa := hid hTa; have S9 := hid hb9; clear hTa hb9)
                go_meet
                case rel => exact ⟨_, _, _, _, _, rfl, rfl, S9.out.size, alloc_block w9 _, HTa.out.at.on ((Below.refl _ _).alloc (Nat.le_refl _) _), S9.out.alloc S9.out.size _⟩
              case rest =>
                obtain ⟨ba, pa, ca, pra, cra, rfl, rfl, HBA, KA8, HTa, S8⟩ := hcut
                obtain ⟨v4, rfl⟩ : ∃ x, x = wc := ⟨_, rfl⟩
                have KR8 := hid (block_on KR.out S8.out)
                have ka8 := block_cell KA8.out
                have kr8 := block_cell KR8.out
                have HT3' := hid (HT3.out.on S8.out)
                clear kp kq
                go_upto_region 19 with fail
                go_cut [14] from 106 to 111 (fun e wx => ∃ pc cc pr cr, e = .int .i64 0 ∧ Hid (wx.heap[ba]? = some (.cells #[.slice pc nc cc, .slice pr m cr] 25)) ∧ Hid (TabAt wx (.agg #[.slice pc nc cc, .slice pr m cr]) cs LS) ∧ Hid (Below v3.heap.size v3 wx))
                case first =>
                  go_wp2_with (go_at_call 19; refine (unionT HTa.out HT3'.out (by rw [LU1.out, HC.out]; omega) CU.out CC.out E1.out HNC.out LS1.out).mono ?_; rintro e w9 ⟨pb, cb, prb, crb, rfl, hTb, hb9⟩; have HTb := hid hTb; have S9 := hid hb9; have KA9 := hid (block_on KA8.out hb9); have ka9 := block_cell KA9.out; have za9 := frozen_no KA9.out; clear hTb hb9 ka8 kr8)
                  go_meet
                  case rel => exact ⟨_, _, _, _, rfl, (put2 KA9.out (below_on S8.out S9.out) HBA.out).1, set2T HTb.out (lt_of_block KA8.out), (put2 KA9.out (below_on S8.out S9.out) HBA.out).2⟩
                case rest =>
                  obtain ⟨pa', ca', pra', cra', rfl, KA10, HTA, S10⟩ := hcut
                  obtain ⟨v5, rfl⟩ : ∃ x, x = wc := ⟨_, rfl⟩
                  have KQ10 := hid (block_on KQ.out S10.out)
                  have KR10 := hid (block_on KR.out S10.out)
                  have kq10 := block_cell KQ10.out
                  have kr10 := block_cell KR10.out
                  have HT2' := hid (HT2.out.on S10.out)
                  have HT3'' := hid (HT3.out.on S10.out)
                  clear ka8 kr8 KA8 KR8 HT3' HTa S8
                  go_upto_region 20 with fail
                  go_cut [15, 16] from 112 to 117 (fun s e wx => ∃ ba pc cc pr cr, s = .pointer (some ⟨ba, 0, none⟩) ∧ e = .int .i64 0 ∧ Hid (v5.heap.size ≤ ba) ∧ Hid (wx.heap[ba]? = some (.cells #[.slice pc nc cc, .slice pr (m - y1) cr] 25)) ∧ Hid (TabAt wx (.agg #[.slice pc nc cc, .slice pr (m - y1) cr]) cs LV) ∧ Hid (Below v5.heap.size v5 wx))
                  case first =>
                    go_wp2_with (go_at_call 19; refine (unionT HT2'.out HT3''.out (by rw [HQ.out, HC.out]; omega) CQ.out CC.out HLV.out HNC.out LV1.out).mono ?_; rintro e w9 ⟨pa, ca, pra, cra, rfl, hTa, hb9⟩; have HTa := hid hTa; have S9 := hid hb9; clear hTa hb9)
                    go_meet
                    case rel => exact ⟨_, _, _, _, _, rfl, rfl, S9.out.size, alloc_block w9 _, HTa.out.at.on ((Below.refl _ _).alloc (Nat.le_refl _) _), S9.out.alloc S9.out.size _⟩
                  case rest =>
                    obtain ⟨bb, pb, cb, prb, crb, rfl, rfl, HBB, KB11, HTb, S11⟩ := hcut
                    obtain ⟨v6, rfl⟩ : ∃ x, x = wc := ⟨_, rfl⟩
                    have KP11 := hid (block_on (block_on KP.out S10.out) S11.out)
                    have kb11 := block_cell KB11.out
                    have kp11 := block_cell KP11.out
                    have HT1' := hid ((HT1.out.on S10.out).on S11.out)
                    clear kq10 kr10
                    go_upto_region 21 with fail
                    go_cut [17] from 118 to 123 (fun e wx => ∃ pc cc pr cr, e = .int .i64 0 ∧ Hid (wx.heap[bb]? = some (.cells #[.slice pc nc cc, .slice pr m cr] 25)) ∧ Hid (TabAt wx (.agg #[.slice pc nc cc, .slice pr m cr]) cs LS) ∧ Hid (Below v5.heap.size v5 wx))
                    case first =>
                      go_wp2_with (go_at_call 19; refine (unionT HT1'.out HTb.out (by rw [HA.out, LV1.out]; omega) CA.out CV.out E2.out HNC.out LS1.out).mono ?_; rintro e w9 ⟨pd, cd, prd, crd, rfl, hTd, hb9⟩; have HTd := hid hTd; have S9 := hid hb9; have KA9 := hid (block_on KB11.out hb9); have ka9 := block_cell KA9.out; have za9 := frozen_no KA9.out; clear hTd hb9 kb11 kp11)
                      go_meet
                      case rel => exact ⟨_, _, _, _, rfl, (put2 KA9.out (below_on S11.out S9.out) HBB.out).1, set2T HTd.out (lt_of_block KB11.out), (put2 KA9.out (below_on S11.out S9.out) HBB.out).2⟩
                    case rest =>
                      obtain ⟨pb', cb', prb', crb', rfl, KB12, HTB, S12⟩ := hcut
                      obtain ⟨v7, rfl⟩ : ∃ x, x = wc := ⟨_, rfl⟩
                      have KA12 := hid (block_on KA10.out S12.out)
                      have KT12 := hid (block_on (block_on KB7.out S10.out) S12.out)
                      have HTA12 := hid (HTA.out.on S12.out)
                      have HT12 := hid ((HTall.out.on S10.out).on S12.out)
                      have HB12 := hid (below_on (below_on HBall.out S10.out) S12.out)
                      have ka12 := block_cell KA12.out
                      have kb12 := block_cell KB12.out
                      clear kb11 kp11 KB11 KP11 HTb S11 HT1' HT2' HT3'' KQ10 KR10
                      go_upto_region 22 with fail
                      go_cut [18] from 124 to 126 (fun s wx => s = .bool true ∧ Hid (Below v7.heap.size v7 wx))
                      case first =>
                        go_wp2_with (go_at_call 17; refine (rsame_is HTA12.out HTB.out (sameB_self cs LS)).mono ?_; rintro e w9 ⟨rfl, hb9⟩; have S9 := hid hb9; clear hb9)
                        go_meet
                        case rel => exact ⟨rfl, S9.out⟩
                      case rest =>
                        obtain ⟨rfl, S13⟩ := hcut
                        obtain ⟨v8, rfl⟩ : ∃ x, x = wc := ⟨_, rfl⟩
                        have KA13 := hid (block_on KA12.out S13.out)
                        have KT13 := hid (block_on KT12.out S13.out)
                        have HTA13 := hid (HTA12.out.on S13.out)
                        have HT13 := hid (HT12.out.on S13.out)
                        have HB13 := hid (below_on HB12.out S13.out)
                        have ka13 := block_cell KA13.out
                        have kt13 := block_cell KT13.out
                        have la13 := lt_of_block KA13.out
                        have lt13 := lt_of_block KT13.out
                        clear ka12 kb12
                        go_upto_region 23 with fail
                        go_cut [19] from 127 to 130 (fun s wx => s = .bool true ∧ Hid (Below v8.heap.size v8 wx))
                        case first =>
                          go_region_with (first
                            | (go_at_call 18; refine (rcanonT (HT13.out.on (Below.refl _ _).drew)).mono ?_; rintro e w14 ⟨pc8, cc8, pr8, cr8, rfl, hT8, hb8⟩; rw [HLS.out] at hT8; have HT8 := hid hT8; have HB8 := hid ((Below.refl v8.heap.size v8).drew.trans hb8); have ka8 := block_cell (block_on KA13.out HB8.out); have kb8 := block_cell (block_on KT13.out HB8.out); clear hT8 hb8)
                            | (go_at_call 17; refine (rsame_is (HTA13.out.on HB8.out) HT8.out (sameB_self cs LS)).mono ?_; rintro e w15 ⟨rfl, hb9⟩; have HB9 := hid (below_on HB8.out hb9); clear hb9))
                          all_goals
                            go_wp2_with fail
                            go_meet
                            case rel => exact ⟨rfl, HB9.out⟩
                        case rest =>
                          obtain ⟨rfl, S14⟩ := hcut
                          have HBend := hid (below_on HB13.out S14.out)
                          go_wp2_with fail
                          go_ret
                          exact ⟨rfl, HBend.out⟩
end Go.Proofs.Ytaccindmjaejdaa
