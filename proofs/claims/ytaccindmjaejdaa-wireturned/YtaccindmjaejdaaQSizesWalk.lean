/-
  The walk of catchmentlaw04.WireSizes.
-/
import Derived.Test.YtaccindmjaejdaaPL
import Derived.Test.YtaccindmjaejdaaPF
namespace Go.Proofs.Ytaccindmjaejdaa
open Go.RowKit Go.Sort Go.Shelf

theorem colsBy_take {cs : List Cl} {k : Nat} (h : k < cs.length) : (colsBy (cs.take (k + 1))).length = (colsBy (cs.take k)).length + 2 + cs[k]!.nm.size := by
  rw [List.take_add_one, List.getElem?_eq_getElem h, show cs[k]! = cs[k] from getElem!_pos cs k h]
  simp only [colsBy, List.flatMap_append, Option.toList_some, List.flatMap_cons, List.flatMap_nil, List.append_nil, List.length_append, colB, txtB_len, bigB_len]
  omega
theorem rowsB_take {rs : List Rw} {k : Nat} (h : k < rs.length) : (rowsB (rs.take (k + 1))).length = (rowsB (rs.take k)).length + (rowBy rs[k]!).length := by
  rw [List.take_add_one, List.getElem?_eq_getElem h, show rs[k]! = rs[k] from getElem!_pos rs k h]
  simp only [rowsB, List.flatMap_append, Option.toList_some, List.flatMap_cons, List.flatMap_nil, List.append_nil, List.length_append]
theorem rowBy_take {r : Rw} {k : Nat} (h : k < r.length) : (rowBy (r.take (k + 1))).length = (rowBy (r.take k)).length + (valB r[k]!).length := by
  rw [List.take_add_one, List.getElem?_eq_getElem h, show r[k]! = r[k] from getElem!_pos r k h]
  simp only [rowBy, List.flatMap_append, Option.toList_some, List.flatMap_cons, List.flatMap_nil, List.append_nil, List.length_append]
theorem flat_take_le {α : Type} (f : α → List UInt8) (l : List α) (k : Nat) : ((l.take k).flatMap f).length ≤ (l.flatMap f).length := by
  have h := congrArg (List.flatMap f) (List.take_append_drop k l)
  rw [List.flatMap_append] at h
  have := congrArg List.length h
  rw [List.length_append] at this
  omega
theorem enc_size (cs : List Cl) (rs : List Rw) : (encB cs rs).length = 11 + (colsBy cs).length + (rowsB rs).length := by
  rw [encB_len, bodyB, List.length_append, List.length_append, List.length_append, bigB_len, bigB_len]; omega
theorem valB_size {x : Vl} (h : validL x = true) : (x.k = 1 ∧ (valB x).length = 8) ∨ (x.k = 2 ∧ (valB x).length = 1 + x.s.size) ∨ (x.k = 3 ∧ (valB x).length = 1) ∨ (x.k = 4 ∧ (valB x).length = 64) := by
  by_cases h1 : x.k = 1
  · exact .inl ⟨h1, by rw [valB_1 h1, bigB_len]⟩
  · by_cases h2 : x.k = 2
    · exact .inr (.inl ⟨h2, by rw [valB_2 h2, txtB_len]; omega⟩)
    · by_cases h3 : x.k = 3
      · exact .inr (.inr (.inl ⟨h3, by rw [valB_3 h3, bigB_len]⟩))
      · have h4 : x.k = 4 := by
          unfold validL validB at h
          rw [if_neg h1, if_neg h2, if_neg h3] at h
          split at h
          · assumption
          · cases h
        exact .inr (.inr (.inr ⟨h4, by rw [valB_4 h1 h2 h3, hisB_len]; rfl⟩))
theorem stored2 {w w2 : World} {c r c' r' : Value} (hk : w2.heap[w.heap.size]? = some (.cells #[c, r] 25)) (hb : Below w.heap.size w w2) :
    ((w2.setCell ⟨w.heap.size, 0, none⟩ c').setCell ⟨w.heap.size, 1, none⟩ r').heap[w.heap.size]? = some (.cells #[c', r'] 25) ∧ Below w.heap.size w ((w2.setCell ⟨w.heap.size, 0, none⟩ c').setCell ⟨w.heap.size, 1, none⟩ r') :=
  ⟨set_block (set_block hk _) _, (hb.setCell (by simp) _).setCell (by simp) _⟩
set_option maxRecDepth 100000 in
set_option maxHeartbeats 2000000 in
theorem sizes_any {v : Value} {cs : List Cl} {rs : List Rw} {w : World} (hT : TabAt w v cs rs) : Calls Try.prog 12 #[v] w fun e w' => e = .returned (.bool true) ∧ Below w.heap.size w w' := by
  obtain ⟨q, nc, capc, p, n, cap, rfl, hcap, hcut⟩ := hT.wcuts
  generalize hrs : rs.take 200 = rs' at hcut
  have hr200 : rs'.length ≤ 200 := by subst hrs; simp; omega
  have HT := hid hcut
  have HR := hid hr200
  have HCAP := hid hcap
  clear hT hcut hrs hr200
  have HB := hid ((Below.refl w.heap.size w).alloc (Nat.le_refl _) (.cells #[.slice q nc capc, .slice p n cap] 25))
  have KB := hid (alloc_block w (.cells #[.slice q nc capc, .slice p n cap] 25))
  by_cases hchk : checkV cs rs' = 0
  · go_enter Try.func12, Try.ntmps12
    go_wp2_with (first
      | (go_at_call 20; refine wshown_any.mono ?_; rintro e w1 ⟨rfl, hb1⟩; have HB1 := hid (below_on HB.out hb1); have KB1 := hid (block_on KB.out hb1); have kb1 := block_cell KB1.out; clear hb1)
      | (go_at_call 25; refine (wcut_val HCAP.out).mono ?_; rintro e w2 ⟨rfl, hb2⟩; generalize hm : min n 200 = m at *; have HM := hid hm; have HB2 := hid (below_on HB1.out hb2); have KB2 := hid (block_on KB1.out hb2); have kb2 := block_cell KB2.out; have zb2 := block_frozen KB2.out; clear hb2 kb1 hm)
      | (go_at_call 26; have hst := stored2 (c' := .slice q nc capc) (r' := .slice p m cap) KB2.out HB2.out; generalize World.setCell _ _ _ = W at *; obtain ⟨hkw, hbw⟩ := hst; have KW := hid hkw; have HBW := hid hbw; refine (enc_ok (HT.out.on HBW.out) hchk (by have := HR.out; omega)).mono ?_; rintro e w3 ⟨v3, rfl, ho3, hb3⟩; obtain ⟨p3, c3, rfl⟩ := ho3.form; have KW3 := hid (block_on KW.out hb3); have HB3 := hid (below_on HBW.out hb3); have kb3 := block_cell KW3.out; clear hb3 ho3 kb2 zb2 hkw hbw))
    obtain ⟨hcb, hrb⟩ := check_parts hchk
    have HVAL : Hid (∀ r ∈ rs', ∀ x ∈ r, validL x = true) := fun r hr => (row_parts (hrb r hr)).2
    have hsz := enc_size cs rs'
    have hbl := body_len hchk (by have := HR.out; omega)
    rw [encB_len] at hsz
    have HSZ := hid hsz
    have HBL := hid hbl
    have hel := encB_len cs rs'
    generalize hEL : (encB cs rs').length = el at *
    have HEL := hid hel
    clear hcb hrb hsz hbl hchk hEL hel
    have hT3 := HT.out.on HB3.out
    obtain ⟨c0, r0, he, hc, hs, hr, hh⟩ := hT3
    simp only [Value.agg.injEq, Array.mk.injEq, List.cons.injEq, and_true] at he
    obtain ⟨rfl, rfl⟩ := he
    obtain ⟨q', capc', hq, -, hmaxc, hxc⟩ := hc
    obtain ⟨p', cap', hp, -, hmaxr, hxr⟩ := hr
    injection hq with e1 e2 e3
    injection hp with e4 e5 e6
    subst e1 e3 e4 e6
    unfold maxLen at hmaxc hmaxr
    have hrl : rs'.length = m := by rw [← hh.1]; exact e5.symm
    have HXC := hid hxc
    have HXR := hid hxr
    have HH := hid hh
    have HNC := hid e2.symm
    have HNH := hid e5.symm
    have HRL := hid hrl
    have hm200 : m ≤ 200 := by have := HR.out; omega
    clear hxc hxr hh hrl
    rw [← e2] at hmaxc
    rw [← e5] at hmaxr
    clear e2 e5
    go_loopw [6, 7] (fun s i wr => ∃ (k a : Nat), k ≤ nc ∧ i = .int .i64 k ∧ s = .int .i64 (11 + (a : Int)) ∧ a ≤ 5000000 ∧ Hid (a = (colsBy (cs.take k)).length) ∧ wr = w3) (fun _ i _ => nc - (intOf i).toNat)
    case atStart => exact ⟨0, 0, by omega, rfl, rfl, by omega, rfl, rfl⟩
    case round =>
      obtain ⟨k, a, hk, rfl, rfl, ha, HA, rfl⟩ := hrel
      by_cases hlt : k < nc
      · have hkc : k < cs.length := by rw [HNC.out]; exact hlt
        obtain ⟨b, o, rfl, -, hj⟩ := HXC.out (by intro e; subst e; simp at hkc)
        obtain ⟨hc0, -⟩ := col_cells (hj k _ (get!_some hkc))
        have hst := colsBy_take hkc
        have hle := flat_take_le colB cs (k + 1)
        have ha2 : a + 2 + cs[k]!.nm.size ≤ 5000000 := by
          have h1 := HA.out
          have h2 := HSZ.out
          have h3 := HBL.out
          have h4 : (colsBy (cs.take (k + 1))).length ≤ (colsBy cs).length := hle
          omega
        have hst' : a + 2 + cs[k]!.nm.size = (colsBy (cs.take (k + 1))).length := by rw [hst, ← HA.out]
        have HST := hid hst'
        generalize cs[k]! = cc at hc0 ha2 HST
        clear hj hst hle hst'
        generalize hns : cc.nm.size = ns at *
        have HNS := hid hns
        have hcz : (cc.nm.size : Int) = (ns : Int) := by rw [hns]
        clear hns
        go_wp2
        go_roundw
        case rel => exact ⟨k + 1, a + 2 + ns, by omega, by go_num, by congr 1 <;> omega, by omega, HST.out, by trivial⟩
        case measure => simp [intOf]; omega
      · have hks : k = nc := by omega
        subst hks
        have hA0 : a = (colsBy cs).length := by have := HA.out; rw [List.take_of_length_le (by rw [HNC.out]; exact Nat.le_refl _)] at this; exact this
        have HA0 := hid hA0
        clear hA0 HA HXC
        go_wp2
        go_loopw [6, 8] (fun s i w5 => ∃ (k a1 : Nat), k ≤ m ∧ i = .int .i64 k ∧ s = .int .i64 (11 + (a : Int) + (a1 : Int)) ∧ a1 ≤ 5000000 ∧ Hid (a1 = (rowsB (rs'.take k)).length) ∧ w5 = wr) (fun _ i _ => m - (intOf i).toNat)
        case atStart => exact ⟨0, 0, by omega, rfl, by congr 1 <;> omega, by omega, rfl, rfl⟩
        case round =>
          obtain ⟨j, a1, hj, rfl, rfl, ha1, HA1, rfl⟩ := hrel
          by_cases hjm : j < m
          · have hjs : j < hs.length := by rw [HNH.out]; exact hjm
            have hjr : j < rs'.length := by rw [HRL.out]; exact hjm
            obtain ⟨b, o, rfl, -, hjj⟩ := HXR.out (by intro e; subst e; simp at hjs)
            have hd := head_cell hjj (get!_some hjs)
            have HRow := hid (HH.out.2 j _ _ (get!_some hjs) (get!_some hjr))
            have HVk := hid (HVAL.out _ (mem_get! hjr))
            have hst := rowsB_take hjr
            have hle : (rowsB (rs'.take (j + 1))).length ≤ (rowsB rs').length := flat_take_le rowBy rs' (j + 1)
            have hst' : a1 + (rowBy rs'[j]!).length = (rowsB (rs'.take (j + 1))).length := by rw [hst, ← HA1.out]
            have htot : a + (a1 + (rowBy rs'[j]!).length) ≤ 5000000 := by
              have h1 := HA0.out
              have h2 := HSZ.out
              have h3 := HBL.out
              omega
            have HST1 := hid hst'
            generalize hs[j]! = hd0 at hd HRow
            generalize rs'[j]! = row at HRow HVk HST1 htot
            clear hjj hst hle hst'
            have HTOT := hid htot
            clear htot
            have hrow := HRow.out
            obtain ⟨p2, cap2, rfl, -, hmax2, hx2⟩ := hrow
            unfold maxLen at hmax2
            have HX2 := hid hx2
            clear hx2
            generalize hrl2 : List.length row = qn at *
            have HRL2 := hid hrl2
            clear hrl2
            go_wp2
            go_loopw [6, 9] (fun s i w6 => ∃ (k a2 : Nat), k ≤ qn ∧ i = .int .i64 k ∧ s = .int .i64 (11 + (a : Int) + (a1 : Int) + (a2 : Int)) ∧ a2 ≤ 5000000 ∧ Hid (a2 = (rowBy (row.take k)).length) ∧ w6 = wr) (fun _ i _ => qn - (intOf i).toNat)
            case atStart => exact ⟨0, 0, by omega, rfl, by congr 1 <;> omega, by omega, rfl, rfl⟩
            case round =>
              obtain ⟨k, a2, hk2, rfl, rfl, ha2, HA2, rfl⟩ := hrel
              by_cases hkq : k < qn
              · have hkr : k < List.length row := by rw [HRL2.out]; exact hkq
                obtain ⟨b2, o2, rfl, -, hj2⟩ := HX2.out (by intro e; subst e; simp at hkr)
                obtain ⟨c0, c1, c2, c3, c4, c5, c6, c7, c8, c9, c10⟩ := val_cells (hj2 k _ (get!_some hkr))
                have hvx := HVk.out _ (mem_get! hkr)
                have hst := rowBy_take hkr
                have hle : (rowBy (row.take (k + 1))).length ≤ (rowBy row).length := flat_take_le valB row (k + 1)
                have hst2 : a2 + (valB row[k]!).length = (rowBy (row.take (k + 1))).length := by rw [hst, ← HA2.out]
                have hkind := valB_size hvx
                have htot2 : a + a1 + (a2 + (valB row[k]!).length) ≤ 5000000 := by have := HTOT.out; omega
                generalize row[k]! = x at c0 c1 c2 c3 c4 c5 c6 c7 c8 c9 c10 hst2 hkind htot2
                clear hj2 hst hle hvx c1 c3 c4 c5 c6 c7 c8 c9 c10
                rcases hkind with ⟨hk', hv⟩ | ⟨hk', hv⟩ | ⟨hk', hv⟩ | ⟨hk', hv⟩
                all_goals
                  rw [hk'] at c0
                  rw [hv] at hst2 htot2
                  have HST2 := hid hst2
                  clear hk' hv hst2
                · go_wp2
                  go_roundw
                  case rel => exact ⟨k + 1, a2 + 8, by omega, by go_num, by congr 1 <;> omega, by omega, HST2.out, by trivial⟩
                  case measure => simp [intOf]; omega
                · generalize hss : x.s.size = ss at *
                  have hsz2 : (x.s.size : Int) = (ss : Int) := by rw [hss]
                  clear hss
                  go_wp2
                  go_roundw
                  case rel => exact ⟨k + 1, a2 + (1 + ss), by omega, by go_num, by congr 1 <;> omega, by omega, HST2.out, by trivial⟩
                  case measure => simp [intOf]; omega
                · go_wp2
                  go_roundw
                  case rel => exact ⟨k + 1, a2 + 1, by omega, by go_num, by congr 1 <;> omega, by omega, HST2.out, by trivial⟩
                  case measure => simp [intOf]; omega
                · go_wp2
                  go_roundw
                  case rel => exact ⟨k + 1, a2 + 64, by omega, by go_num, by congr 1 <;> omega, by omega, HST2.out, by trivial⟩
                  case measure => simp [intOf]; omega
              · have hkq' : k = qn := by omega
                subst hkq'
                have he2 : a1 + a2 = (rowsB (rs'.take (j + 1))).length := by
                  have h1 := HA2.out
                  rw [List.take_of_length_le (by rw [HRL2.out]; exact Nat.le_refl _)] at h1
                  rw [← HST1.out, ← h1]
                have HE2 := hid he2
                have htt : a1 + a2 ≤ 5000000 := by
                  have h1 := HA2.out
                  rw [List.take_of_length_le (by rw [HRL2.out]; exact Nat.le_refl _)] at h1
                  have := HTOT.out; omega
                clear he2
                go_wp2
                go_roundw
                case rel => exact ⟨j + 1, a1 + a2, by omega, by go_num, by congr 1 <;> omega, htt, HE2.out, by trivial⟩
                case measure => simp [intOf]; omega
          · have hjm' : j = m := by omega
            subst hjm'
            have hfin : (el : Int) = 11 + (a : Int) + (a1 : Int) := by
              have h1 := HA1.out
              rw [List.take_of_length_le (by rw [HRL.out]; exact Nat.le_refl _)] at h1
              have h2 := HA0.out
              have h3 := HSZ.out
              have h4 := HEL.out
              omega
            go_wp2
            go_ret
            exact ⟨rfl, HB3.out⟩
  · go_enter Try.func12, Try.ntmps12
    generalize hz : checkV cs rs' = z at *
    have HZ := hid hz
    have hne : (z != 0) = true := by simpa using hchk
    have HCHK := hid hchk
    clear hz hchk
    go_wp2_with (first
      | (go_at_call 20; refine wshown_any.mono ?_; rintro e w1 ⟨rfl, hb1⟩; have HB1 := hid (below_on HB.out hb1); have KB1 := hid (block_on KB.out hb1); have kb1 := block_cell KB1.out; clear hb1)
      | (go_at_call 25; refine (wcut_val HCAP.out).mono ?_; rintro e w2 ⟨rfl, hb2⟩; generalize hm : min n 200 = m at *; have HM := hid hm; have HB2 := hid (below_on HB1.out hb2); have KB2 := hid (block_on KB1.out hb2); have kb2 := block_cell KB2.out; have zb2 := block_frozen KB2.out; clear hb2 kb1 hm)
      | (go_at_call 26; have hst := stored2 (c' := .slice q nc capc) (r' := .slice p m cap) KB2.out HB2.out; generalize World.setCell _ _ _ = W at *; obtain ⟨hkw, hbw⟩ := hst; have KW := hid hkw; have HBW := hid hbw; refine (enc_err (HT.out.on HBW.out) (by rw [HZ.out]; exact HCHK.out)).mono ?_; rintro e w3 ⟨rfl, hb3⟩; rw [HZ.out]; have HB3 := hid (below_on HBW.out hb3); clear hb3 kb2 zb2 hkw hbw))
    go_ret
    exact ⟨rfl, HB3.out⟩
end Go.Proofs.Ytaccindmjaejdaa
