/-
  ParseTree's walk.
-/
import Derived.Test.YtbamlpedlgghbaaDoorQTreeM
import Derived.Test.YtbamlpedlgghbaaDoorQShn
import Derived.Laws.MakeOwn
namespace Go.Proofs.YtbamlpedlgghbaaDoor
open Go.RowKit Go.Joins

theorem queryO_tree {l : List UInt8} (h : (queryO l).2.2 = 0) : Tree 0 (queryO l).1 ∧ (queryO l).1.length ≤ 128 := by
  unfold queryO at h ⊢
  generalize lexO l = O at *
  obtain ⟨tks, a, e⟩ := O
  simp only at h ⊢
  split at h
  · rename_i he
    rw [if_pos he]
    split at h
    · rename_i h1
      rw [if_pos h1]
      exact parse_tree h1
    · rename_i h1; exact absurd h h1
  · rename_i he; exact absurd h he
theorem queryO_bad {l : List UInt8} (h : ¬ (queryO l).2.2 = 0) : (queryO l).1 = [] := by
  unfold queryO at h ⊢
  generalize lexO l = O at *
  obtain ⟨tks, a, e⟩ := O
  simp only at h ⊢
  split at h
  · rename_i he
    rw [if_pos he]
    split at h
    · simp at h
    · rename_i h1; rw [if_neg h1]
  · rename_i he; rw [if_neg he]
/- How often each has been named. -/
def nmA (n : Nat) (E : List Int) : Array Value := ((List.range n).map fun (j : Nat) => Value.int .i64 ((E.count (j : Int) : Nat) : Int)).toArray
theorem nmA_at {n : Nat} {E : List Int} {j : Nat} (h : j < n) : (nmA n E)[j]? = some (.int .i64 ((E.count (j : Int) : Nat) : Int)) := by
  unfold nmA
  simp [h]
theorem nmA_set {n : Nat} {E : List Int} {j : Nat} (h : j < n) : (nmA n E).setIfInBounds j (.int .i64 (((E.count (j : Int) : Nat) : Int) + 1)) = nmA n (E ++ [(j : Int)]) := by
  unfold nmA
  apply Array.ext'
  apply List.ext_getElem?
  intro k
  simp only [Array.toList_setIfInBounds, List.getElem?_set, List.length_map, List.length_range]
  by_cases hk : j = k
  · subst hk
    simp [h, List.count_append]
  · have hc : (E ++ [(j : Int)]).count (k : Int) = E.count (k : Int) := by
      rw [List.count_append, List.count_eq_zero.2 (show ¬ (k : Int) ∈ [(j : Int)] by simp; omega)]; rfl
    simp only [hk, if_false]
    by_cases hkn : k < n
    · simp only [List.getElem?_map, List.getElem?_range hkn, Option.map_some, hc]
    · simp [hkn]
theorem made_int (n : Nat) : madeCells #[.int .i64 0] n = nmA n [] := by
  unfold madeCells nmA
  apply Array.ext
  · simp
  · intro i h1 h2; simp [Nat.mod_one]
theorem make_ints (n : Nat) (hn : n ≤ 1024) (W : World) : (Instr.makeSlice 29 (.int .i64 (n : Int)) (.int .i64 (n : Int))).run Tryd.prog W = .ok (.slice (some ⟨W.heap.size, 0, none⟩) n n) (W.alloc (.cells (nmA n []) 3)) := by
  obtain ⟨i, hi, h0, h1, h2⟩ := info_parts info_int
  have h := run_make W 29 3 i _ Tryd.underlying29 hi h0 .i64 .i64 (n : Int) (n : Int) (by omega) (Int.le_refl _) (by rw [h2]; omega) (by omega)
  rw [h, h1, Int.toNat_natCast, Nat.mul_one]
  show Result.ok _ (W.alloc (.cells (madeCells #[.int .i64 0] n) 3)) = _
  rw [made_int]
theorem ents_take {ns : List Np} {i : Nat} {x : Np} (h : ns[i]? = some x) : ents (ns.take (i + 1)) = ents (ns.take i) ++ x.l := by
  obtain ⟨h1, h2⟩ := List.getElem?_eq_some_iff.1 h
  rw [List.take_add_one, h, ents_app]; simp [ents]
theorem cnt_le {ns : List Np} (hT : Tree 0 ns) {i k : Nat} {x : Np} (h : ns[i]? = some x) (j : Nat) : (ents (ns.take i) ++ x.l.take k).count (j : Int) ≤ 1 := by
  have h1 : (ents ns).count (j : Int) ≤ 1 := by
    by_cases hj : j + 1 < 0 + ns.length
    · rw [hT.one j (Nat.zero_le _) hj]; exact Nat.le_refl _
    · rw [hT.none (by omega)]; omega
  refine Nat.le_trans ?_ h1
  have e : ents ns = ents (ns.take i) ++ (x.l.take k ++ (x.l.drop k ++ ents (ns.drop (i + 1)))) := by
    have := ents_app (ns.take (i + 1)) (ns.drop (i + 1))
    rw [List.take_append_drop, ents_take h] at this
    rw [this, ← List.append_assoc (x.l.take k), List.take_append_drop, List.append_assoc]
  rw [e, List.count_append, List.count_append (l₁ := ents (ns.take i)) (l₂ := x.l.take k ++ (x.l.drop k ++ ents (ns.drop (i + 1)))), List.count_append (l₁ := x.l.take k)]
  omega
set_option maxRecDepth 100000 in
set_option maxHeartbeats 4000000 in
theorem tree_any (l : List UInt8) (hl : (l.length : Int) ≤ 140737488355328) (w : World) (hG : Gd w) : Calls Tryd.prog 3 #[.string (St l)] w fun e w' => e = .returned (.bool true) ∧ Below w.heap.size w w' := by
  have HG := hid hG
  have HS := hid (shown_any w hG)
  have HQ := hid (fun w hG => Query_any l hl w hG)
  have HT := hid (@queryO_tree l)
  have HN := hid (@queryO_bad l)
  clear hG
  generalize queryO l = R at *
  obtain ⟨ns, at_, er⟩ := R
  simp only at HT HN
  by_cases her : er = 0
  · subst her
    obtain ⟨hT, h128⟩ := HT.out rfl
    have HTr := hid hT
    have hne := hT.ne
    have hmk := make_ints ns.length (by omega)
    have HQu : Hid (∀ w, Gd w → Calls Tryd.prog 6 #[.string (St l)] w (WhP w (ns, at_, 0))) := HQ.out
    generalize hn : ns.length = n at *
    have HLn := hid hn
    clear hT HT HN hn
    go_enter Tryd.func3, Tryd.ntmps3
    go_upto_region 5 with (first
      | (go_at_call 5; refine HS.out.mono ?_; rintro e w1 ⟨rfl, hb⟩; have HB1 := hid hb; clear hb)
      | (go_at_call 6; refine (HQu.out _ (HG.out.next HB1.out)).mono ?_; rintro e w2 ⟨v, rfl, hnq, hb⟩; obtain ⟨g, c, rfl, hc1, hc2, hr⟩ := hnq.rows (by rw [HLn.out]; exact hne); rw [HLn.out]; have HR2 := hid (hr.le.on ((Below.refl _ _).alloc (Nat.le_refl _) (.cells #[.slice (some ⟨g, 0, none⟩) n c] 25))); have HX2 := hid (alloc_block w2 (.cells #[.slice (some ⟨g, 0, none⟩) n c] 25)); have HB2 := hid ((HB1.out.trans (hb.mono HB1.out.size)).alloc (Nat.le_trans HB1.out.size hb.size) (.cells #[.slice (some ⟨g, 0, none⟩) n c] 25)); unfold maxLen at hc2; rw [HLn.out] at hc1; clear hnq hr hb))
    generalize w2.alloc (.cells #[.slice (some ⟨g, 0, none⟩) n c] 25) = W0 at *
    generalize w2.heap.size = bq at *
    have c0 := block_cell HX2.out 0
    have HB0 : Hid (Below W0.heap.size W0 (W0.alloc (.cells (nmA n []) 3))) := (Below.refl _ _).alloc (Nat.le_refl _) _
    have HN0 := hid (alloc_block W0 (.cells (nmA n []) 3))
    have nI : (n : Int) ≤ 128 := by omega
    go_wp2_with fail
    clear c0 hmk
    generalize W0.alloc (.cells (nmA n []) 3) = W1 at *
    go_loopw [8] (fun x wr => ∃ i : Nat, i ≤ n ∧ x = .int .i64 i ∧ Hid (Below W0.heap.size W0 wr) ∧ Hid (wr.heap[W0.heap.size]? = some (.cells (nmA n (ents (ns.take i))) 3 (0, 0)))) (fun x _ => n - (intOf x).toNat)
    case atStart => exact ⟨0, by omega, rfl, HB0.out, by show _ = _; simpa [ents] using HN0.out⟩
    case round =>
      obtain ⟨i, hi, rfl, HBr, HNr⟩ := hrel
      clear HB0 HN0
      have c0 := block_cell (block_on HX2.out HBr.out) 0
      by_cases hlt : i < n
      · obtain ⟨x, hx⟩ : ∃ x, ns[i]? = some x := ⟨ns[i]'(by rw [HLn.out]; omega), List.getElem?_eq_getElem _⟩
        have HX := hid hx
        have HEn := hid (ents_take hx)
        have HCn := hid (fun k j => cnt_le HTr.out hx (k := k) j)
        have HLo := hid (HTr.out.low i x hx)
        obtain ⟨lv, cl, ol⟩ := HR2.out.l i (l := x.l) (by rw [List.getElem?_map, hx]; rfl)
        have HOl := hid ol
        obtain ⟨pl, cpl, rfl⟩ := ol.form
        have HCl := hid cl
        have iI : (i : Int) < n := by omega
        have i0 : (0 : Int) ≤ i := by omega
        have hbx : (x.l.length : Int) ≤ 9223372036854775807 := by obtain ⟨p2, c2, e, h1, h2⟩ := (ol.sl (fun _ => rfl)).form; unfold maxLen at h2; omega
        generalize hm : x.l.length = m at *
        have HM := hid hm
        clear hx cl ol hm
        go_wp2_with fail
        clear c0
        go_loopw [9] (fun y wi => ∃ k : Nat, k ≤ m ∧ y = .int .i64 k ∧ Hid (Below W0.heap.size W0 wi) ∧ Hid (wi.heap[W0.heap.size]? = some (.cells (nmA n (ents (ns.take i) ++ x.l.take k)) 3 (0, 0)))) (fun y _ => m - (intOf y).toNat)
        case atStart => exact ⟨0, by omega, rfl, HBr.out, by show _ = _; simpa using HNr.out⟩
        case round =>
          obtain ⟨k, hk, rfl, HBk, HNk⟩ := hrel
          have c0 := block_cell (block_on HX2.out HBk.out) 0
          have cl := (HBk.out.cell (p := ⟨g, i * 19 + 16, none⟩) (block_lt_of_cell HCl.out)).trans HCl.out
          by_cases hk2 : k < m
          · obtain ⟨z, hz⟩ : ∃ z, x.l[k]? = some z := ⟨x.l[k]'(by rw [HM.out]; omega), List.getElem?_eq_getElem _⟩
            obtain ⟨j, rfl, -, hj⟩ := HLo.out z (List.mem_of_getElem? hz)
            obtain ⟨gl, ogl, hpl, -, cz⟩ := ((HOl.out.on HBk.out).sl (fun _ => rfl)).at hz
            cases hpl
            have e1 : wr.cell? ⟨gl, ogl + k, none⟩ = some (.int .i64 (j : Int)) := by have := cz 0 _ rfl; simpa using this
            have kI : (k : Int) < m := by omega
            have k0 : (0 : Int) ≤ k := by omega
            have jI : (j : Int) < i := by omega
            have j0 : ¬ (j : Int) < 0 := by omega
            have j1 : (0 : Int) ≤ j := by omega
            have j2 : ¬ (i : Int) ≤ j := by omega
            have jn : (j : Int) < n := by omega
            have hcn := HCn.out k j
            have cn := (block_cell HNk.out j).trans (nmA_at (by omega))
            have zn := block_frozen HNk.out j
            have hst := HNk.out
            have hset := block_set HNk.out j (.int .i64 ((((ents (ns.take i) ++ x.l.take k).count (j : Int) : Nat) : Int) + 1))
            rw [nmA_set (by omega), List.append_assoc, show x.l.take k ++ [(j : Int)] = x.l.take (k + 1) by rw [List.take_add_one, hz]; rfl] at hset
            have HSet := hid hset
            clear hset hst hz cz
            generalize (ents (ns.take i) ++ x.l.take k).count (j : Int) = cnt at *
            have cI : (cnt : Int) ≤ 1 := by omega
            go_wp2_with fail
            go_roundw
            case rel => exact ⟨k + 1, by omega, by go_num, HBk.out.setCell (by simp) _, HSet.out⟩
            case measure => simp [intOf]; omega
          · have kI : ¬ (k : Int) < m := by omega
            have hkm : k = m := by omega
            go_wp2_with fail
            go_roundw
            case rel => exact ⟨i + 1, by omega, by go_num, HBk.out, by show _ = _; rw [HEn.out]; have := HNk.out; rw [List.take_of_length_le (show x.l.length ≤ k by rw [HM.out]; omega)] at this; exact this⟩
            case measure => simp [intOf]; omega
      · have iI : ¬ (i : Int) < n := by omega
        have hin : i = n := by omega
        subst hin
        have HNa := HNr.out
        rw [List.take_of_length_le (by rw [HLn.out]; omega)] at HNa
        have HNb := hid HNa
        clear HNa HNr
        go_wp2_with fail
        clear c0
        go_loopw [11] (fun x wi => ∃ k : Nat, k ≤ i ∧ x = .int .i64 k ∧ wr = wi) (fun x _ => i - (intOf x).toNat)
        case atStart => exact ⟨0, by omega, rfl, rfl⟩
        case round =>
          obtain ⟨k, hk, rfl, hwi⟩ := hrel
          subst hwi
          by_cases hk2 : k < i
          · have cn := (block_cell HNb.out k).trans (nmA_at hk2)
            have kI : (k : Int) < i := by omega
            have k0 : (0 : Int) ≤ k := by omega
            by_cases hk3 : k + 1 < i
            · have h1 := HTr.out.one k (Nat.zero_le _) (by rw [HLn.out]; omega)
              rw [h1] at cn
              have b1 : ((k : Int) == (i : Int) - 1) = false := by simp; omega
              have b2 : decide ((k : Int) = (i : Int) - 1) = false := by simp; omega
              go_wp2_with fail
              go_roundw
              case rel => exact ⟨k + 1, by omega, by go_num, by trivial⟩
              case measure => simp [intOf]; omega
            · have h1 := HTr.out.none (j := k) (by rw [HLn.out]; omega)
              rw [h1] at cn
              have b1 : ((k : Int) == (i : Int) - 1) = true := by simp; omega
              go_wp2_with fail
              go_roundw
              case rel => exact ⟨k + 1, by omega, by go_num, by trivial⟩
              case measure => simp [intOf]; omega
          · have kI : ¬ (k : Int) < i := by omega
            have c0 := block_cell (block_on HX2.out HBr.out) 0
            have i1 : (0 : Int) < i := by omega
            go_wp2_with fail
            go_ret
            exact ⟨rfl, HB2.out.trans (HBr.out.mono HB2.out.size)⟩
  · have hnil := HN.out her
    subst hnil
    have HQu : Hid (∀ w, Gd w → Calls Tryd.prog 6 #[.string (St l)] w (WhP w ([], at_, er))) := HQ.out
    have be : (er != 0) = true := by simp [her]
    clear HT HN her
    go_enter Tryd.func3, Tryd.ntmps3
    go_wp2_with (first
      | (go_at_call 5; refine HS.out.mono ?_; rintro e w1 ⟨rfl, hb⟩; have HB1 := hid hb; clear hb)
      | (go_at_call 6; refine (HQu.out _ (HG.out.next HB1.out)).mono ?_; rintro e w2 ⟨v, rfl, hnq, hb⟩; obtain ⟨p, c, rfl, -⟩ := hnq.len; have HB2 := hid ((HB1.out.trans (hb.mono HB1.out.size)).alloc (Nat.le_trans HB1.out.size hb.size) (.cells #[.slice p 0 c] 25)); clear hnq hb))
    go_ret
    exact ⟨rfl, HB2.out⟩
end Go.Proofs.YtbamlpedlgghbaaDoor
