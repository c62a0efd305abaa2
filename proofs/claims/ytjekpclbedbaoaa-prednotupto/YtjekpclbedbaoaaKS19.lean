/-
  Two rows of rows in canonical order, merged: the canonical order of both.
  What the reference's Cols and Check return, for all columns and tables.
  What the reference's Check returns, for every table.
  What the statements' cut (the first rows of a table) returns.
  What table.pick returns, for values and for columns.
  What table.placesOf returns, for all names and columns.
-/
import Derived.Test.YtjekpclbedbaoaaKS14
import Derived.Test.YtjekpclbedbaoaaKS15
import Derived.Laws.IdiomCopy
namespace Go.Proofs.Ytjekpclbedbaoaa.TN
open Go.RowKit Go.Sort Go.Shelf

def leR (x y : Rw) : Bool := decide (cmpR x y ≤ 0)
def mergeR (a b : List Rw) : List Rw := List.merge a b leR
theorem mergeR_left {a b : List Rw} {i k : Nat} (hi : i < a.length) (hk : b.length ≤ k) : mergeR (a.drop i) (b.drop k) = a[i]! :: mergeR (a.drop (i + 1)) (b.drop k) := by
  have e1 : a[i]! = a[i] := by rw [List.getElem!_eq_getElem?_getD, List.getElem?_eq_getElem hi]; rfl
  rw [List.drop_eq_nil_of_le hk, List.drop_eq_getElem_cons hi, e1]
  unfold mergeR
  rw [List.merge_right, List.merge_right]
theorem mergeR_right {a b : List Rw} {i k : Nat} (hi : a.length ≤ i) (hk : k < b.length) : mergeR (a.drop i) (b.drop k) = b[k]! :: mergeR (a.drop i) (b.drop (k + 1)) := by
  have e1 : b[k]! = b[k] := by rw [List.getElem!_eq_getElem?_getD, List.getElem?_eq_getElem hk]; rfl
  rw [List.drop_eq_nil_of_le hi, List.drop_eq_getElem_cons hk, e1]
  unfold mergeR
  rw [List.nil_merge, List.nil_merge]
theorem mergeR_le {a b : List Rw} {i k : Nat} (hi : i < a.length) (hk : k < b.length) (h : cmpR a[i]! b[k]! ≤ 0) : mergeR (a.drop i) (b.drop k) = a[i]! :: mergeR (a.drop (i + 1)) (b.drop k) := by
  have e1 : a[i]! = a[i] := by rw [List.getElem!_eq_getElem?_getD, List.getElem?_eq_getElem hi]; rfl
  have e2 : b[k]! = b[k] := by rw [List.getElem!_eq_getElem?_getD, List.getElem?_eq_getElem hk]; rfl
  rw [e1, e2] at h
  rw [List.drop_eq_getElem_cons hi, List.drop_eq_getElem_cons hk, e1]
  unfold mergeR
  rw [List.cons_merge_cons, if_pos (by unfold leR; exact decide_eq_true h)]
theorem mergeR_gt {a b : List Rw} {i k : Nat} (hi : i < a.length) (hk : k < b.length) (h : ¬ cmpR a[i]! b[k]! ≤ 0) : mergeR (a.drop i) (b.drop k) = b[k]! :: mergeR (a.drop i) (b.drop (k + 1)) := by
  have e1 : a[i]! = a[i] := by rw [List.getElem!_eq_getElem?_getD, List.getElem?_eq_getElem hi]; rfl
  have e2 : b[k]! = b[k] := by rw [List.getElem!_eq_getElem?_getD, List.getElem?_eq_getElem hk]; rfl
  rw [e1, e2] at h
  rw [List.drop_eq_getElem_cons hi, List.drop_eq_getElem_cons hk, e2]
  unfold mergeR
  rw [List.cons_merge_cons, if_neg (by unfold leR; simpa using h)]
theorem mergeR_sort (a b : List Rw) : mergeR (sortR a) (sortR b) = sortR (a ++ b) := by
  refine sortR_of ?_ ?_
  · have := List.pairwise_merge (le := leR) (fun x y z h1 h2 => by unfold leR at *; simp at *; exact cmpR_trans h1 h2) (fun x y => by have := neg_cmpR x y; unfold leR; simp; omega) (sortR a) (sortR b) ((sortR_up a).imp fun h => by unfold leR; simpa using h) ((sortR_up b).imp fun h => by unfold leR; simpa using h)
    exact this.imp fun h => by unfold leR at h; simpa using h
  · exact (List.merge_perm_append (le := leR)).trans ((sortR_perm a).append (sortR_perm b))
theorem sortR_short {a : List Rw} (h : a.length < 2) : sortR a = a := by
  refine (sortR_of ?_ (List.Perm.refl a)).symm
  match a, h with
  | [], _ => exact List.Pairwise.nil
  | [x], _ => exact List.pairwise_singleton _ _
theorem SlAt.drop {α : Type} {Q : Nat → Prop} {enc : α → List Value} {k : Nat} {w : World} {p : Option Addr} {n cap : Nat} {xs : List α} (h : SlAt Q enc k w (.slice p n cap) xs) (hk1 : k = 1) (m : Nat) (hm : m ≤ n) : SlAt Q enc k w (.slice (if cap = m then p else Option.map (fun x => x.add m) p) (n - m) (cap - m)) (xs.drop m) := by
  subst hk1
  obtain ⟨p', cap', hv, ⟨hc, hno⟩, hmx, hx⟩ := h
  cases hv
  have hl : (xs.drop m).length = xs.length - m := by simp
  refine ⟨_, _, by rw [hl], ⟨by omega, ?_⟩, by omega, fun hne => ?_⟩
  · intro e
    split at e
    · omega
    · cases p with
      | none => have := hno rfl; omega
      | some a => cases e
  · have hlt : m < xs.length := by
      rcases Nat.lt_or_ge m xs.length with h | h
      · exact h
      · exact absurd (List.drop_eq_nil_of_le h) hne
    obtain ⟨b, o, rfl, hQ, hj⟩ := hx (by intro e; subst e; simp at hlt)
    rw [if_neg (by omega)]
    refine ⟨b, o + m, by simp [Addr.add_lit], ⟨hQ.1, Nat.le_trans (Nat.mul_le_mul_right _ (by omega)) hQ.2⟩, fun j x hjx => ?_⟩
    have := hj (m + j) x (by rw [List.getElem?_drop] at hjx; exact hjx)
    have e : o + (m + j) * 1 = o + m + j * 1 := by omega
    rwa [e] at this
theorem HeadsIn.drop {Q : Nat → Prop} {w : World} {hs : List Value} {rs : List Rw} (h : HeadsIn Q w hs rs) (m : Nat) : HeadsIn Q w (hs.drop m) (rs.drop m) := by
  refine ⟨by rw [List.length_drop, List.length_drop, h.1], fun j x r h1 h2 => ?_⟩
  rw [List.getElem?_drop] at h1 h2
  exact h.2 _ x r h1 h2
end Go.Proofs.Ytjekpclbedbaoaa.TN
namespace Go.Proofs.Ytjekpclbedbaoaa.TN
open Go.RowKit Go.Sort Go.Shelf

theorem rname_is {s : ByteArray} {r : Bool} {w : World} (hs : s.size ≤ maxLen) (h : nameB s = r) : Calls Try.prog 69 #[.string s] w fun e w' => e = .returned (.bool r) ∧ w' = w := by rw [← h]; exact rname_any hs
theorem rfind_is {v : Value} {cs : List Cl} {nm : ByteArray} {r : Int} {w : World} (hv : ColsAt w v cs) (h : findC cs nm = r) : Calls Try.prog 27 #[v, .string nm] w fun e w' => e = .returned (.int .i64 r) ∧ Below w.heap.size w w' := by rw [← h]; exact rfind_any hv
theorem cell_on {w w' : World} {a : Addr} {v : Value} (h : w.cell? a = some v) (hb : Below w.heap.size w w') : w'.cell? a = some v :=
  (hb.cell (block_lt_of_cell h)).trans h
set_option maxHeartbeats 1000000 in
theorem rcols_any {v : Value} {cs : List Cl} {w : World} (hv : ColsAt w v cs) :
    Calls Try.prog 44 #[v] w fun e w' => e = .returned (.bool (colsB cs)) ∧ Below w.heap.size w w' := by
  have hv0 := hv
  obtain ⟨p, cap, rfl, hcap, hmax, hx⟩ := hv
  unfold maxLen at hmax
  generalize hr : colsB cs = r
  have HR := hid hr
  clear hr
  by_cases h1 : cs.length < 1
  · have g1 : (cs.length : Int) < 1 := by omega
    clear hx hv0
    go_enter Try.func44, Try.ntmps44
    go_wp2
    go_ret
    exact ⟨ret_bool ((colsB_no (by omega)).symm.trans HR.out), Below.refl _ _⟩
  · have g1 : ¬ (cs.length : Int) < 1 := by omega
    by_cases h2 : 16 < cs.length
    · have g2 : (16 : Int) < (cs.length : Int) := by omega
      clear hx hv0
      go_enter Try.func44, Try.ntmps44
      go_wp2
      go_ret
      exact ⟨ret_bool ((colsB_no (by omega)).symm.trans HR.out), Below.refl _ _⟩
    · have g2 : ¬ (16 : Int) < (cs.length : Int) := by omega
      obtain ⟨b, o, rfl, -, hj⟩ := hx (by intro e; subst e; simp at h1)
      have HV := hid hv0
      have HJ := hid hj
      clear hx hv0 hj
      generalize hn : cs.length = n at *
      have HN := hid hn
      clear hn
      go_enter Try.func44, Try.ntmps44
      go_wp2
      go_loopw [3] (fun i wr => ∃ k : Nat, k ≤ n ∧ i = .int .i64 k ∧ Hid (Below w.heap.size w wr) ∧ Hid (∀ j, j < k → colOk cs j cs[j]! = true)) (fun i _ => n - (intOf i).toNat)
      case atStart => exact ⟨0, by omega, rfl, Below.refl _ _, fun j h => absurd h (Nat.not_lt_zero _)⟩
      case round =>
        obtain ⟨k, hk, rfl, HB, HA⟩ := hrel
        by_cases hlt : k < n
        · have hkc : k < cs.length := by rw [HN.out]; exact hlt
          obtain ⟨hc0, hc1⟩ := col_cells ((HJ.out k _ (get!_some hkc)).on HB.out)
          generalize hcc : cs[k]! = c at hc0 hc1
          have HCC := hid hcc
          have HC1 := hid hc1
          clear hcc
          have HS := hid c.small
          cases hb : nameB c.nm with
          | false =>
            go_wp2_with (first | (go_at_call 69; refine (rname_is HS.out hb).mono ?_; rintro e w' ⟨rfl, rfl⟩))
            go_ret
            exact ⟨ret_bool ((colsB_bad hkc (by rw [HCC.out]; exact colOk_name hb)).symm.trans HR.out), HB.out⟩
          | true =>
            generalize hf : findC cs c.nm = f
            have HF := hid hf
            clear hf
            by_cases hfk : f = (k : Int)
            · subst hfk
              by_cases h3 : c.kd < 1
              · go_wp2_with (first | (go_at_call 69; refine (rname_is HS.out hb).mono ?_; rintro e w' ⟨rfl, rfl⟩) | (go_at_call 27; refine (rfind_is (HV.out.on HB.out) HF.out).mono ?_; rintro e w2 ⟨rfl, hbl⟩; have hc2 := cell_on HC1.out hbl; have HBL := hid hbl; clear hbl))
                go_ret
                exact ⟨ret_bool ((colsB_bad hkc (by rw [HCC.out]; exact colOk_kind (by omega))).symm.trans HR.out), below_on HB.out HBL.out⟩
              · by_cases h4 : 4 < c.kd
                · go_wp2_with (first | (go_at_call 69; refine (rname_is HS.out hb).mono ?_; rintro e w' ⟨rfl, rfl⟩) | (go_at_call 27; refine (rfind_is (HV.out.on HB.out) HF.out).mono ?_; rintro e w2 ⟨rfl, hbl⟩; have hc2 := cell_on HC1.out hbl; have HBL := hid hbl; clear hbl))
                  go_ret
                  exact ⟨ret_bool ((colsB_bad hkc (by rw [HCC.out]; exact colOk_kind (by omega))).symm.trans HR.out), below_on HB.out HBL.out⟩
                · go_wp2_with (first | (go_at_call 69; refine (rname_is HS.out hb).mono ?_; rintro e w' ⟨rfl, rfl⟩) | (go_at_call 27; refine (rfind_is (HV.out.on HB.out) HF.out).mono ?_; rintro e w2 ⟨rfl, hbl⟩; have hc2 := cell_on HC1.out hbl; have HBL := hid hbl; clear hbl))
                  go_roundw
                  case rel =>
                    refine ⟨k + 1, by omega, by go_num, below_on HB.out HBL.out, fun j h => ?_⟩
                    by_cases e : j = k
                    · subst e; rw [HCC.out]; exact colOk_yes hb HF.out (by omega) (by omega)
                    · exact HA.out j (by omega)
                  case measure => simp [intOf]; omega
            · have hne : (f != (k : Int)) = true := by simpa using hfk
              have HFK := hid hfk
              clear hfk
              go_wp2_with (first | (go_at_call 69; refine (rname_is HS.out hb).mono ?_; rintro e w' ⟨rfl, rfl⟩) | (go_at_call 27; refine (rfind_is (HV.out.on HB.out) HF.out).mono ?_; rintro e w2 ⟨rfl, hbl⟩; have hc2 := cell_on HC1.out hbl; have HBL := hid hbl; clear hbl))
              go_ret
              exact ⟨ret_bool ((colsB_bad hkc (by rw [HCC.out]; exact colOk_find (by rw [HF.out]; exact HFK.out))).symm.trans HR.out), below_on HB.out HBL.out⟩
        · have hks : k = n := by omega
          subst hks
          go_wp2
          go_ret
          exact ⟨ret_bool ((colsB_yes (by rw [HN.out]; omega) (by rw [HN.out]; exact HA.out)).symm.trans HR.out), HB.out⟩
end Go.Proofs.Ytjekpclbedbaoaa.TN
namespace Go.Proofs.Ytjekpclbedbaoaa.TN
open Go.RowKit Go.Sort Go.Shelf

theorem rcols_is {v : Value} {cs : List Cl} {r : Bool} {w : World} (hv : ColsAt w v cs) (h : colsB cs = r) : Calls Try.prog 44 #[v] w fun e w' => e = .returned (.bool r) ∧ Below w.heap.size w w' := by rw [← h]; exact rcols_any hv
theorem rvalid_is {x : Vl} {r : Bool} {w : World} (h : validL x = r) : Calls Try.prog 45 #[x.val] w fun e w' => e = .returned (.bool r) ∧ Below w.heap.size w w' := by rw [← h]; exact rvalid_any
set_option maxHeartbeats 2000000 in
theorem rcheck_any {v : Value} {cs : List Cl} {rs : List Rw} {w : World} (hv : TabAt w v cs rs) :
    Calls Try.prog 22 #[v] w fun e w' => e = .returned (.int .i64 (checkV cs rs)) ∧ Below w.heap.size w w' := by
  obtain ⟨c, rv, rfl, hc, hs, hrs, hh⟩ := hv
  have HC := hid hc
  obtain ⟨p, cap, rfl, hcap, hmax, hx⟩ := hrs
  obtain ⟨q, cap', rfl, hcap', hmax', hy⟩ := hc
  unfold maxLen at hmax hmax'
  generalize hr : checkV cs rs = res
  have HR := hid hr
  have HX := hid hx
  have HY := hid hy
  have HH := hid hh
  clear hr hx hh hy
  generalize hn : hs.length = n at *
  generalize hm : cs.length = m at *
  have HN := hid hn
  have HM := hid hm
  clear hn hm
  have HE : Hid (Below w.heap.size w (w.alloc (.cells #[.slice q m cap', .slice p n cap] 25))) := (Below.refl _ _).alloc (Nat.le_refl _) _
  have KB := hid (alloc_block w (.cells #[.slice q m cap', .slice p n cap] 25))
  cases hb : colsB cs with
  | false =>
    go_enter Try.func22, Try.ntmps22
    go_wp2_with (first | (go_at_call 44; refine (rcols_is (HC.out.on HE.out) hb).mono ?_; rintro e w1 ⟨rfl, hb1⟩))
    go_ret
    exact ⟨ret_int ((check_cols hb).symm.trans HR.out), below_on HE.out hb1⟩
  | true =>
    have HCB := hid hb
    go_enter Try.func22, Try.ntmps22
    go_wp2_with (first | (go_at_call 44; refine (rcols_is (HC.out.on HE.out) hb).mono ?_; rintro e w1 ⟨rfl, hb1⟩; have HB1 := hid (below_on HE.out hb1); have KB1 := hid (block_on KB.out hb1); have kb1 := block_cell KB1.out; clear hb1))
    clear kb1 hb HE KB
    go_loopw [3] (fun i wr => ∃ k : Nat, k ≤ n ∧ i = .int .i64 k ∧ Hid (Below w.heap.size w wr) ∧ Hid (wr.heap[w.heap.size]? = some (.cells #[.slice q m cap', .slice p n cap] 25 (0, 0))) ∧ Hid (∀ j, j < k → rowB cs rs[j]! = true)) (fun i _ => n - (intOf i).toNat)
    case atStart => exact ⟨0, by omega, rfl, HB1.out, KB1.out, fun j h => absurd h (Nat.not_lt_zero _)⟩
    case round =>
      clear HB1 KB1
      obtain ⟨k, hk, rfl, HB, HK, HA⟩ := hrel
      have k0 := block_cell HK.out
      by_cases hlt : k < n
      · have hkh : k < hs.length := by rw [HN.out]; exact hlt
        have hkr : k < rs.length := by rw [← HH.out.1]; exact hkh
        obtain ⟨b, o, rfl, -, hj⟩ := HX.out (by intro e; subst e; simp at hkh)
        have hd := head_cell (fun j x hjx => (hj j x hjx).on HB.out) (get!_some hkh)
        have HRow := hid ((HH.out.2 k _ _ (get!_some hkh) (get!_some hkr)).on HB.out)
        have HBAD := hid (fun h => check_bad (cs := cs) (rs := rs) HCB.out hkr h)
        have HSTEP : Hid (rowB cs rs[k]! = true → ∀ j, j < k + 1 → rowB cs rs[j]! = true) := fun e j hj => by
          by_cases h : j = k
          · subst h; exact e
          · exact HA.out j (by omega)
        generalize hs[k]! = hd0 at hd HRow
        generalize rs[k]! = r at HRow HBAD HSTEP
        clear hj
        obtain ⟨q', capr, rfl, hcapr, hmaxr, hz⟩ := HRow.out
        unfold maxLen at hmaxr
        have HZ := hid hz
        clear hz
        generalize hl : r.length = l at *
        have HL := hid hl
        clear hl
        by_cases hlm : l = m
        · have hne : ((l : Int) != (m : Int)) = false := by simp; omega
          go_wp2_with fail
          go_quiet (fail)
          have HB2 := hid (below_drewN HB.out nq)
          have HK2 := hid (show (wr.drewN nq).heap[w.heap.size]? = _ from HK.out)
          have hd2 : (wr.drewN nq).cell? ⟨b, o + k, none⟩ = _ := hd
          have HD2 := hid hd2
          have HZ2 : Hid (r ≠ [] → ∃ b o, q' = some ⟨b, o, none⟩ ∧ (any b ∧ l * bsz 11 ≤ 140737488355328) ∧ ∀ (j : Nat) x, r[j]? = some x → CellsAt (wr.drewN nq) b (o + j * 11) x.cells) := fun hne => by
            obtain ⟨b, o, hp, hQ, hj⟩ := HZ.out hne
            exact ⟨b, o, hp, hQ, fun j x hjx => (hj j x hjx).on (below_drewN (Below.refl _ _) nq)⟩
          clear k0 hd HB HK HZ HRow hd2
          generalize wr.drewN nq = w3 at *
          go_wp2
          go_loopw [4] (fun i w4 => ∃ j : Nat, j ≤ m ∧ i = .int .i64 j ∧ Hid (Below w3.heap.size w3 w4) ∧ Hid (∀ t, t < j → fitB cs[t]!.kd r[t]! = true)) (fun i _ => m - (intOf i).toNat)
          case atStart => exact ⟨0, by omega, rfl, Below.refl _ _, fun j h => absurd h (Nat.not_lt_zero _)⟩
          case round =>
            obtain ⟨j, hj, rfl, HB4, HF⟩ := hrel
            have HB5 := hid (below_on HB2.out HB4.out)
            have HK5 := hid (block_on HK2.out HB4.out)
            have kk := block_cell HK5.out
            by_cases hjm : j < m
            · have hjr : j < r.length := by rw [HL.out]; omega
              have hjc : j < cs.length := by rw [HM.out]; exact hjm
              obtain ⟨b1, o1, rfl, -, hv1⟩ := HZ2.out (by intro e; subst e; simp at hjr)
              obtain ⟨b2, o2, rfl, -, hv2⟩ := HY.out (by intro e; subst e; simp at hjc)
              obtain ⟨c0, c1, c2, c3, c4, c5, c6, c7, c8, c9, c10⟩ := val_cells ((hv1 j _ (get!_some hjr)).on HB4.out)
              obtain ⟨e0, e1⟩ := col_cells ((hv2 j _ (get!_some hjc)).on HB5.out)
              have hd5 := cell_on HD2.out HB4.out
              have HFBAD := hid (fun h => rowB_bad (cs := cs) (r := r) hjr h)
              have HFSTEP : Hid (fitB cs[j]!.kd r[j]! = true → ∀ t, t < j + 1 → fitB cs[t]!.kd r[t]! = true) := fun e t ht => by
                by_cases h : t = j
                · subst h; exact e
                · exact HF.out t (by omega)
              generalize r[j]! = x at c0 c1 c2 c3 c4 c5 c6 c7 c8 c9 c10 HFBAD HFSTEP
              generalize cs[j]! = y at e0 e1 HFBAD HFSTEP
              clear hv1 hv2 HZ2
              replace c0 := regrown_cell c0
              replace c1 := regrown_cell c1
              replace c2 := regrown_cell c2
              replace c3 := regrown_cell c3
              replace c4 := regrown_cell c4
              replace c5 := regrown_cell c5
              replace c6 := regrown_cell c6
              replace c7 := regrown_cell c7
              replace c8 := regrown_cell c8
              replace c9 := regrown_cell c9
              replace c10 := regrown_cell c10
              replace e1 := regrown_cell e1
              replace hd5 := regrown_cell hd5
              have kk0 : ∀ d os i, (grow (redrawn wr d) os).cell? ⟨w.heap.size, i, none⟩ = (#[.slice (some ⟨b2, o2, none⟩) m cap', .slice (some ⟨b, o, none⟩) n cap] : Array Value)[i]? := fun d os i => block_cell (block_on HK5.out (below_regrown wr d os)) i
              clear e0
              by_cases hkd : x.k = y.kd
              · have hkn : (x.k != y.kd) = false := by simpa using hkd
                have HKD := hid hkd
                clear hkd
                cases hvl : validL x with
                | true =>
                  go_wp2_with fail
                  refine wp_region_quiet_below (by kernel_rfl) (by kernel_rfl) ?_
                  repeat (go_big_quiet_step (first | (go_at_call 45; exact Calls.regrown_of (rvalid_is hvl))))
                  refine wpQuiet_nil ?_
                  intro _ hw'
                  obtain ⟨⟨dq, osq⟩, hw''⟩ := hw'
                  subst hw''
                  go_wp2
                  go_roundw
                  case rel => exact ⟨j + 1, by omega, by go_num, below_on HB4.out (below_regrown wr dq osq), HFSTEP.out (by rw [fit_is HKD.out]; exact hvl)⟩
                  case measure => simp [intOf]; omega
                | false =>
                  go_wp2_with fail
                  refine wp_region_quiet_below (by kernel_rfl) (by kernel_rfl) ?_
                  repeat (go_big_quiet_step (first | (go_at_call 45; exact Calls.regrown_of (rvalid_is hvl))))
                  refine wpQuiet_nil ?_
                  intro _ hw'
                  obtain ⟨⟨dq, osq⟩, hw''⟩ := hw'
                  subst hw''
                  go_wp2
                  go_ret
                  exact ⟨ret_int ((HBAD.out (HFBAD.out (by rw [fit_is HKD.out]; exact hvl))).symm.trans HR.out), below_on HB5.out (below_regrown wr dq osq)⟩
              · have hkn : (x.k != y.kd) = true := by simpa using hkd
                have HKD := hid hkd
                clear hkd
                go_wp2_with fail
                refine wp_region_quiet_below (by kernel_rfl) (by kernel_rfl) ?_
                repeat (go_big_quiet_step (first | fail))
                refine wpQuiet_nil ?_
                intro _ hw'
                obtain ⟨⟨dq, osq⟩, hw''⟩ := hw'
                subst hw''
                go_wp2
                go_ret
                exact ⟨ret_int ((HBAD.out (HFBAD.out (fit_no HKD.out))).symm.trans HR.out), below_on HB5.out (below_regrown wr dq osq)⟩
            · have hjs : j = m := by omega
              subst hjs
              go_wp2
              go_roundw
              case rel => exact ⟨k + 1, by omega, by go_num, HB5.out, HK5.out, HSTEP.out (rowB_yes (by rw [HL.out, HM.out]; exact hlm) (by rw [HL.out, hlm]; exact HF.out))⟩
              case measure => simp [intOf]; omega
        · have hne : ((l : Int) != (m : Int)) = true := by simp; omega
          go_wp2_with fail
          go_quiet (fail)
          go_wp2
          go_ret
          exact ⟨ret_int ((HBAD.out (rowB_no (by rw [HL.out, HM.out]; exact hlm))).symm.trans HR.out), below_drewN HB.out _⟩
      · have hks : k = n := by omega
        subst hks
        go_wp2
        go_ret
        exact ⟨ret_int ((check_ok HCB.out (by rw [← HH.out.1, HN.out]; exact HA.out)).symm.trans HR.out), HB.out⟩
end Go.Proofs.Ytjekpclbedbaoaa.TN
namespace Go.Proofs.Ytjekpclbedbaoaa.TN
open Go.RowKit Go.Sort Go.Shelf

theorem SlAt.take {α : Type} {Q : Nat → Prop} {enc : α → List Value} {k : Nat} {w : World} {p : Option Addr} {n cap : Nat} {xs : List α} (h : SlAt Q enc k w (.slice p n cap) xs) (m : Nat) (hm : m ≤ n) : SlAt Q enc k w (.slice p m cap) (xs.take m) := by
  obtain ⟨p', cap', hv, ⟨hc, hno⟩, hmx, hx⟩ := h
  cases hv
  have hl : (xs.take m).length = m := by simp; omega
  refine ⟨p, cap, by rw [hl], ⟨by omega, hno⟩, by omega, fun hne => ?_⟩
  obtain ⟨b, o, hp, hQ, hj⟩ := hx (by intro e; subst e; simp at hne)
  refine ⟨b, o, hp, ⟨hQ.1, Nat.le_trans (Nat.mul_le_mul_right _ (by omega)) hQ.2⟩, fun j x hjx => hj j x ?_⟩
  have hlt : j < m := by have := (List.getElem?_eq_some_iff.1 hjx).1; omega
  rwa [List.getElem?_take_of_lt hlt] at hjx
theorem HeadsIn.take {Q : Nat → Prop} {w : World} {hs : List Value} {rs : List Rw} (h : HeadsIn Q w hs rs) (m : Nat) : HeadsIn Q w (hs.take m) (rs.take m) := by
  refine ⟨by rw [List.length_take, List.length_take, h.1], fun j x r h1 h2 => ?_⟩
  have hlt : j < m := by have := (List.getElem?_eq_some_iff.1 h1).1; simp at this; omega
  rw [List.getElem?_take_of_lt hlt] at h1 h2
  exact h.2 j x r h1 h2
end Go.Proofs.Ytjekpclbedbaoaa.TN
namespace Go.Proofs.Ytjekpclbedbaoaa.TN
open Go.RowKit Go.Sort Go.Shelf

def encN (n : Nat) : List Value := [.int .i64 (n : Int)]
theorem take_map_snoc_gen {β : Type} {ps : List Nat} {f : Nat → β} {k : Nat} (h : k < ps.length) : (ps.take (k + 1)).map f = (ps.take k).map f ++ [f ps[k]!] := by
  have e : ps[k]! = ps[k] := by rw [List.getElem!_eq_getElem?_getD, List.getElem?_eq_getElem h]; rfl
  rw [List.take_succ_eq_append_getElem h, List.map_append, e]; rfl
/- A block of m elements of k cells, whose first ones are these. -/
structure Filled {α : Type} (enc : α → List Value) (k B m : Nat) (xs : List α) (w : World) : Prop where
  lt : B < w.heap.size
  cell : ∀ i, i < m * k → ∃ y, w.cell? ⟨B, i, none⟩ = some y
  frozen : ∀ i, w.frozen? ⟨B, i, none⟩ = false
  held : ∀ (j : Nat) x, xs[j]? = some x → CellsAt w B (j * k) (enc x)
theorem Filled.start {α : Type} (enc : α → List Value) (k m e : Nat) (w : World) {C : Array Value} (hc : C.size = m * k) : Filled enc k w.heap.size m ([] : List α) (w.alloc (.cells C e)) := by
  have hb := alloc_block w (.cells C e)
  refine ⟨by simp, fun i hi => ⟨C[i]'(by omega), ?_⟩, fun i => frozen_no hb i, fun j x h => by simp at h⟩
  rw [block_cell hb]; exact Array.getElem?_eq_getElem _
theorem frozen_sets (b : Nat) : ∀ (vs : List Value) (o : Nat) (w : World) (a : Addr), (w.setCells b o vs).frozen? a = w.frozen? a
  | [], _, _, _ => rfl
  | v :: vs, o, w, a => by rw [World.setCells, frozen_sets b vs]; simp
theorem below_sets {B : Nat} {w w' : World} {R : Nat} (h : Below B w w') (hR : B ≤ R) : ∀ (vs : List Value) (o : Nat), Below B w (w'.setCells R o vs)
  | [], _ => h
  | v :: vs, o => by rw [World.setCells]; exact below_sets (below_set h hR) hR vs (o + 1)
theorem size_sets (b : Nat) : ∀ (vs : List Value) (o : Nat) (w : World), (w.setCells b o vs).heap.size = w.heap.size
  | [], _, _ => rfl
  | v :: vs, o, w => by rw [World.setCells, size_sets b vs, World.size_setCell]
theorem Filled.put {α : Type} {enc : α → List Value} {k B m : Nat} {xs : List α} {w : World} {x : α} (h : Filled enc k B m xs w) (hk : ∀ x, (enc x).length = k) (hkm : (xs.length + 1) * k ≤ m * k) : Filled enc k B m (xs ++ [x]) (w.setCells B (xs.length * k) (enc x)) := by
  have hin := World.cell?_setCells_in B (enc x) (xs.length * k) w (fun j hj => by
    rw [hk] at hj
    obtain ⟨y, hy⟩ := h.cell (xs.length * k + j) (by rw [Nat.succ_mul] at hkm; omega)
    rw [hy]; rfl)
  have hout := fun a => World.cell?_setCells_out B (enc x) (xs.length * k) w a
  refine ⟨by rw [size_sets]; exact h.lt, fun i hi => ?_, fun i => by rw [frozen_sets]; exact h.frozen i, fun j y hy i u hu => ?_⟩
  · by_cases hc : i < xs.length * k ∨ xs.length * k + (enc x).length ≤ i
    · obtain ⟨y, hy⟩ := h.cell i hi
      exact ⟨y, (hout ⟨B, i, none⟩ (fun _ _ => hc)).trans hy⟩
    · have hj : i - xs.length * k < (enc x).length := by omega
      have := hin (i - xs.length * k) hj
      rw [show xs.length * k + (i - xs.length * k) = i from by omega] at this
      exact ⟨_, this⟩
  · have hiu : i < k := by
      have := (List.getElem?_eq_some_iff.1 hu).1
      rwa [hk] at this
    by_cases hj : j < xs.length
    · rw [List.getElem?_append_left hj] at hy
      have h1 := h.held j y hy i u hu
      have h2 : j * k + i < xs.length * k := by
        have : (j + 1) * k ≤ xs.length * k := Nat.mul_le_mul_right k hj
        rw [Nat.succ_mul] at this; omega
      exact (hout ⟨B, j * k + i, none⟩ (fun _ _ => Or.inl h2)).trans h1
    · rw [List.getElem?_append_right (by omega)] at hy
      cases hd : j - xs.length with
      | succ d => rw [hd] at hy; simp at hy
      | zero =>
        rw [hd] at hy
        simp at hy
        subst hy
        have hje : j = xs.length := by omega
        subst hje
        have hlt := (List.getElem?_eq_some_iff.1 hu).1
        have := hin i hlt
        rw [this, (List.getElem?_eq_some_iff.1 hu).2]
theorem Filled.sl {α : Type} {enc : α → List Value} {k B m : Nat} {xs : List α} {w : World} (h : Filled enc k B m xs w) (hl : xs.length = m) (hm : m ≤ 4096) : SlAt (fun b => B ≤ b) enc k w (.slice (some ⟨B, 0, none⟩) m m) xs := by
  refine ⟨some ⟨B, 0, none⟩, m, by rw [hl], ⟨by omega, fun e => by cases e⟩, by unfold maxLen; omega, fun _ => ⟨B, 0, rfl, ⟨Nat.le_refl _, by unfold bsz; split <;> omega⟩, fun j x hj => ?_⟩⟩
  rw [Nat.zero_add]; exact h.held j x hj

theorem make_pickV (n : Nat) (hn : n ≤ 4096) (W : World) : (Instr.makeSlice 48 (.int .i64 (n : Int)) (.int .i64 (n : Int))).run Try.prog W = .ok (.slice (some ⟨W.heap.size, 0, none⟩) n n) (W.alloc (.cells (madeCells (V 0 0 ⟨#[]⟩ 0 0 0 0 0 0 0 0).cells (n * 11)) 40)) := by
  obtain ⟨i, hi, h0, h1, h2⟩ := info_parts info48
  have h := run_make W 48 40 i _ Try.underlying48 hi h0 .i64 .i64 (n : Int) (n : Int) (by omega) (Int.le_refl _) (by rw [h2]; omega) (by omega)
  rw [h, h1, Int.toNat_natCast]
theorem make_pickC (n : Nat) (hn : n ≤ 4096) (W : World) : (Instr.makeSlice 22 (.int .i64 (n : Int)) (.int .i64 (n : Int))).run Try.prog W = .ok (.slice (some ⟨W.heap.size, 0, none⟩) n n) (W.alloc (.cells (madeCells (Value.agg #[.string ⟨#[]⟩, .int .i64 0]).cells (n * 2)) 57)) := by
  obtain ⟨i, hi, h0, h1, h2⟩ := info_parts info45
  have h := run_make W 22 57 i _ Try.underlying22 hi h0 .i64 .i64 (n : Int) (n : Int) (by omega) (Int.le_refl _) (by rw [h2]; omega) (by omega)
  rw [h, h1, Int.toNat_natCast]
end Go.Proofs.Ytjekpclbedbaoaa.TN
namespace Go.Proofs.Ytjekpclbedbaoaa.TN
open Go.RowKit Go.Sort Go.Shelf

def encS (s : ByteArray) : List Value := [.string s]
abbrev NamesAt (w : World) (v : Value) (ns : List ByteArray) : Prop := SlAt any encS 1 w v ns
def places (cs : List Cl) : List ByteArray → List Nat → List Nat
  | [], acc => acc
  | nm :: r, acc => if findC cs nm < 0 ∨ (findC cs nm).toNat ∈ acc then [] else places cs r (acc ++ [(findC cs nm).toNat])
theorem places_step {cs : List Cl} {ns : List ByteArray} {acc : List Nat} {k : Nat} (h : k < ns.length) : places cs (ns.drop k) acc = if findC cs ns[k]! < 0 ∨ (findC cs ns[k]!).toNat ∈ acc then [] else places cs (ns.drop (k + 1)) (acc ++ [(findC cs ns[k]!).toNat]) := by
  have e : ns[k]! = ns[k] := by rw [List.getElem!_eq_getElem?_getD, List.getElem?_eq_getElem h]; rfl
  rw [List.drop_eq_getElem_cons h, e]; rfl
theorem findC_lt (cs : List Cl) (nm : ByteArray) : findC cs nm < cs.length := by
  have gen : ∀ (l : List Cl) (i : Nat), Lib.idxByFrom (fun _ y => isNm nm y) default l i < (i : Int) + l.length := by
    intro l
    induction l with
    | nil => intro i; simp [Lib.idxByFrom]; omega
    | cons c r ih =>
      intro i
      have := ih (i + 1)
      simp only [Lib.idxByFrom, List.length_cons]
      split <;> omega
  have := gen cs 0
  simpa [findC, Lib.idxBy] using this
theorem find_is {v : Value} {cs : List Cl} {nm : ByteArray} {w : World} {f : Int} (hv : ColsAt w v cs) (h : findC cs nm = f) :
    Calls Try.prog 65 #[v, .string nm] w fun e w' => e = .returned (.int .i64 f) ∧ Below w.heap.size w w' := by rw [← h]; exact find_any hv
theorem Own.on {α : Type} {enc : α → List Value} {k e B : Nat} {w w' : World} {v : Value} {xs : List α} (h : Own enc k e B w v xs) (hb : Below w.heap.size w w') : Own enc k e B w' v xs :=
  ⟨h.1, h.2.elim Or.inl (fun ⟨g, cap, cur, hv, hg, hblk, r⟩ => Or.inr ⟨g, cap, cur, hv, hg, block_on hblk hb, r⟩)⟩
theorem small1 {n : Nat} (h : n ≤ 4096) : n * bsz 1 ≤ 140737488355328 := by
  have e : bsz 1 = 24 := rfl
  rw [e]; omega
theorem lit_sl {α : Type} {enc : α → List Value} {k : Nat} {w : World} {B n cap : Nat} {C : Array Value} {e : TypeId} {xs : List α} (hb : w.heap[B]? = some (.cells C e (0, 0))) (hk : ∀ x, (enc x).length = k) (hC : C.toList = xs.flatMap enc) (hn : n = xs.length) (hcap : n ≤ cap) (hl : xs.length ≤ 4096) : SlAt (fun b => b = B) enc k w (.slice (some ⟨B, 0, none⟩) n cap) xs := by
  subst hn
  refine ⟨some ⟨B, 0, none⟩, cap, rfl, ⟨hcap, fun e => by cases e⟩, by unfold maxLen; omega, fun _ => ⟨B, 0, rfl, ⟨rfl, by unfold bsz; split <;> omega⟩, fun j x hx i u hu => ?_⟩⟩
  have h := flat_get hk xs j x hx i u hu
  rw [block_cell hb, ← Array.getElem?_toList, hC, Nat.zero_add]; exact h
end Go.Proofs.Ytjekpclbedbaoaa.TN
