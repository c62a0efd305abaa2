/-
  Two rows of rows in canonical order, merged: the canonical order of both.
  What the reference's Cols and Check return, for all columns and tables.
  What the reference's Check returns, for every table.
  What the statements' cut (the first rows of a table) returns.
  What the reference's sorted returns, for all rows: their headers in canonical order, in a slice of its own.
-/
import Derived.Test.YtopjpkkidjlbeaaKW05
import Derived.Test.YtopjpkkidjlbeaaKW14
import Derived.Test.YtopjpkkidjlbeaaKW21
namespace Go.Proofs.Ytopjpkkidjlbeaa.TN
open Go.RowKit Go.Sort Go.Shelf

def leR (x y : Rw) : Bool := decide (cmpR x y ≤ 0)
def mergeR (a b : List Rw) : List Rw := List.merge a b leR
theorem mergeR_left {a b : List Rw} {i k : Nat} (hi : i < a.length) (hk : b.length ≤ k) : mergeR (a.drop i) (b.drop k) = a[i]! :: mergeR (a.drop (i + 1)) (b.drop k) := by
  have e1 : a[i]! = a[i] := by rw [List.getElem!_eq_getElem?_getD, List.getElem?_eq_getElem hi]; rfl
  rw [List.drop_eq_nil_of_le hk, List.drop_eq_getElem_cons hi, e1]
  unfold mergeR
  rw [List.merge_right, List.merge_right]
theorem mergeR_right {a b : List Rw} {i k : Nat} (hi : a.length ≤ i) (hk : k < b.length) : mergeR (a.drop i) (b.drop k) = b[k]! :: mergeR (a.drop i) (b.drop (k + 1)) := by
  have e1 : b[k]! = b[k] := by rw [List.getElem!_eq_getElem?_getD, List.getElem?_eq_getElem hk]; rfl
  rw [List.drop_eq_nil_of_le hi, List.drop_eq_getElem_cons hk, e1]
  unfold mergeR
  rw [List.nil_merge, List.nil_merge]
theorem mergeR_le {a b : List Rw} {i k : Nat} (hi : i < a.length) (hk : k < b.length) (h : cmpR a[i]! b[k]! ≤ 0) : mergeR (a.drop i) (b.drop k) = a[i]! :: mergeR (a.drop (i + 1)) (b.drop k) := by
  have e1 : a[i]! = a[i] := by rw [List.getElem!_eq_getElem?_getD, List.getElem?_eq_getElem hi]; rfl
  have e2 : b[k]! = b[k] := by rw [List.getElem!_eq_getElem?_getD, List.getElem?_eq_getElem hk]; rfl
  rw [e1, e2] at h
  rw [List.drop_eq_getElem_cons hi, List.drop_eq_getElem_cons hk, e1]
  unfold mergeR
  rw [List.cons_merge_cons, if_pos (by unfold leR; exact decide_eq_true h)]
theorem mergeR_gt {a b : List Rw} {i k : Nat} (hi : i < a.length) (hk : k < b.length) (h : ¬ cmpR a[i]! b[k]! ≤ 0) : mergeR (a.drop i) (b.drop k) = b[k]! :: mergeR (a.drop i) (b.drop (k + 1)) := by
  have e1 : a[i]! = a[i] := by rw [List.getElem!_eq_getElem?_getD, List.getElem?_eq_getElem hi]; rfl
  have e2 : b[k]! = b[k] := by rw [List.getElem!_eq_getElem?_getD, List.getElem?_eq_getElem hk]; rfl
  rw [e1, e2] at h
  rw [List.drop_eq_getElem_cons hi, List.drop_eq_getElem_cons hk, e2]
  unfold mergeR
  rw [List.cons_merge_cons, if_neg (by unfold leR; simpa using h)]
theorem mergeR_sort (a b : List Rw) : mergeR (sortR a) (sortR b) = sortR (a ++ b) := by
  refine sortR_of ?_ ?_
  · have := List.pairwise_merge (le := leR) (fun x y z h1 h2 => by unfold leR at *; simp at *; exact cmpR_trans h1 h2) (fun x y => by have := neg_cmpR x y; unfold leR; simp; omega) (sortR a) (sortR b) ((sortR_up a).imp fun h => by unfold leR; simpa using h) ((sortR_up b).imp fun h => by unfold leR; simpa using h)
    exact this.imp fun h => by unfold leR at h; simpa using h
  · exact (List.merge_perm_append (le := leR)).trans ((sortR_perm a).append (sortR_perm b))
theorem sortR_short {a : List Rw} (h : a.length < 2) : sortR a = a := by
  refine (sortR_of ?_ (List.Perm.refl a)).symm
  match a, h with
  | [], _ => exact List.Pairwise.nil
  | [x], _ => exact List.pairwise_singleton _ _
theorem SlAt.drop {α : Type} {Q : Nat → Prop} {enc : α → List Value} {k : Nat} {w : World} {p : Option Addr} {n cap : Nat} {xs : List α} (h : SlAt Q enc k w (.slice p n cap) xs) (hk1 : k = 1) (m : Nat) (hm : m ≤ n) : SlAt Q enc k w (.slice (if cap = m then p else Option.map (fun x => x.add m) p) (n - m) (cap - m)) (xs.drop m) := by
  subst hk1
  obtain ⟨p', cap', hv, ⟨hc, hno⟩, hmx, hx⟩ := h
  cases hv
  have hl : (xs.drop m).length = xs.length - m := by simp
  refine ⟨_, _, by rw [hl], ⟨by omega, ?_⟩, by omega, fun hne => ?_⟩
  · intro e
    split at e
    · omega
    · cases p with
      | none => have := hno rfl; omega
      | some a => cases e
  · have hlt : m < xs.length := by
      rcases Nat.lt_or_ge m xs.length with h | h
      · exact h
      · exact absurd (List.drop_eq_nil_of_le h) hne
    obtain ⟨b, o, rfl, hQ, hj⟩ := hx (by intro e; subst e; simp at hlt)
    rw [if_neg (by omega)]
    refine ⟨b, o + m, by simp [Addr.add_lit], ⟨hQ.1, Nat.le_trans (Nat.mul_le_mul_right _ (by omega)) hQ.2⟩, fun j x hjx => ?_⟩
    have := hj (m + j) x (by rw [List.getElem?_drop] at hjx; exact hjx)
    have e : o + (m + j) * 1 = o + m + j * 1 := by omega
    rwa [e] at this
theorem HeadsIn.drop {Q : Nat → Prop} {w : World} {hs : List Value} {rs : List Rw} (h : HeadsIn Q w hs rs) (m : Nat) : HeadsIn Q w (hs.drop m) (rs.drop m) := by
  refine ⟨by rw [List.length_drop, List.length_drop, h.1], fun j x r h1 h2 => ?_⟩
  rw [List.getElem?_drop] at h1 h2
  exact h.2 _ x r h1 h2
end Go.Proofs.Ytopjpkkidjlbeaa.TN
namespace Go.Proofs.Ytopjpkkidjlbeaa.TN
open Go.RowKit Go.Sort Go.Shelf

theorem rname_is {s : ByteArray} {r : Bool} {w : World} (hs : s.size ≤ maxLen) (h : nameB s = r) : Calls Try.prog 78 #[.string s] w fun e w' => e = .returned (.bool r) ∧ w' = w := by rw [← h]; exact rname_any hs
theorem rfind_is {v : Value} {cs : List Cl} {nm : ByteArray} {r : Int} {w : World} (hv : ColsAt w v cs) (h : findC cs nm = r) : Calls Try.prog 38 #[v, .string nm] w fun e w' => e = .returned (.int .i64 r) ∧ Below w.heap.size w w' := by rw [← h]; exact rfind_any hv
theorem cell_on {w w' : World} {a : Addr} {v : Value} (h : w.cell? a = some v) (hb : Below w.heap.size w w') : w'.cell? a = some v :=
  (hb.cell (block_lt_of_cell h)).trans h
set_option maxHeartbeats 1000000 in
theorem rcols_any {v : Value} {cs : List Cl} {w : World} (hv : ColsAt w v cs) :
    Calls Try.prog 49 #[v] w fun e w' => e = .returned (.bool (colsB cs)) ∧ Below w.heap.size w w' := by
  have hv0 := hv
  obtain ⟨p, cap, rfl, hcap, hmax, hx⟩ := hv
  unfold maxLen at hmax
  generalize hr : colsB cs = r
  have HR := hid hr
  clear hr
  by_cases h1 : cs.length < 1
  · have g1 : (cs.length : Int) < 1 := by omega
    clear hx hv0
    go_enter Try.func49, Try.ntmps49
    go_wp2
    go_ret
    exact ⟨ret_bool ((colsB_no (by omega)).symm.trans HR.out), Below.refl _ _⟩
  · have g1 : ¬ (cs.length : Int) < 1 := by omega
    by_cases h2 : 16 < cs.length
    · have g2 : (16 : Int) < (cs.length : Int) := by omega
      clear hx hv0
      go_enter Try.func49, Try.ntmps49
      go_wp2
      go_ret
      exact ⟨ret_bool ((colsB_no (by omega)).symm.trans HR.out), Below.refl _ _⟩
    · have g2 : ¬ (16 : Int) < (cs.length : Int) := by omega
      obtain ⟨b, o, rfl, -, hj⟩ := hx (by intro e; subst e; simp at h1)
      have HV := hid hv0
      have HJ := hid hj
      clear hx hv0 hj
      generalize hn : cs.length = n at *
      have HN := hid hn
      clear hn
      go_enter Try.func49, Try.ntmps49
      go_wp2
      go_loopw [3] (fun i wr => ∃ k : Nat, k ≤ n ∧ i = .int .i64 k ∧ Hid (Below w.heap.size w wr) ∧ Hid (∀ j, j < k → colOk cs j cs[j]! = true)) (fun i _ => n - (intOf i).toNat)
      case atStart => exact ⟨0, by omega, rfl, Below.refl _ _, fun j h => absurd h (Nat.not_lt_zero _)⟩
      case round =>
        obtain ⟨k, hk, rfl, HB, HA⟩ := hrel
        by_cases hlt : k < n
        · have hkc : k < cs.length := by rw [HN.out]; exact hlt
          obtain ⟨hc0, hc1⟩ := col_cells ((HJ.out k _ (get!_some hkc)).on HB.out)
          generalize hcc : cs[k]! = c at hc0 hc1
          have HCC := hid hcc
          have HC1 := hid hc1
          clear hcc
          have HS := hid c.small
          cases hb : nameB c.nm with
          | false =>
            go_wp2_with (first | (go_at_call 78; refine (rname_is HS.out hb).mono ?_; rintro e w' ⟨rfl, rfl⟩))
            go_ret
            exact ⟨ret_bool ((colsB_bad hkc (by rw [HCC.out]; exact colOk_name hb)).symm.trans HR.out), HB.out⟩
          | true =>
            generalize hf : findC cs c.nm = f
            have HF := hid hf
            clear hf
            by_cases hfk : f = (k : Int)
            · subst hfk
              by_cases h3 : c.kd < 1
              · go_wp2_with (first | (go_at_call 78; refine (rname_is HS.out hb).mono ?_; rintro e w' ⟨rfl, rfl⟩) | (go_at_call 38; refine (rfind_is (HV.out.on HB.out) HF.out).mono ?_; rintro e w2 ⟨rfl, hbl⟩; have hc2 := cell_on HC1.out hbl; have HBL := hid hbl; clear hbl))
                go_ret
                exact ⟨ret_bool ((colsB_bad hkc (by rw [HCC.out]; exact colOk_kind (by omega))).symm.trans HR.out), below_on HB.out HBL.out⟩
              · by_cases h4 : 4 < c.kd
                · go_wp2_with (first | (go_at_call 78; refine (rname_is HS.out hb).mono ?_; rintro e w' ⟨rfl, rfl⟩) | (go_at_call 38; refine (rfind_is (HV.out.on HB.out) HF.out).mono ?_; rintro e w2 ⟨rfl, hbl⟩; have hc2 := cell_on HC1.out hbl; have HBL := hid hbl; clear hbl))
                  go_ret
                  exact ⟨ret_bool ((colsB_bad hkc (by rw [HCC.out]; exact colOk_kind (by omega))).symm.trans HR.out), below_on HB.out HBL.out⟩
                · go_wp2_with (first | (go_at_call 78; refine (rname_is HS.out hb).mono ?_; rintro e w' ⟨rfl, rfl⟩) | (go_at_call 38; refine (rfind_is (HV.out.on HB.out) HF.out).mono ?_; rintro e w2 ⟨rfl, hbl⟩; have hc2 := cell_on HC1.out hbl; have HBL := hid hbl; clear hbl))
                  go_roundw
                  case rel =>
                    refine ⟨k + 1, by omega, by go_num, below_on HB.out HBL.out, fun j h => ?_⟩
                    by_cases e : j = k
                    · subst e; rw [HCC.out]; exact colOk_yes hb HF.out (by omega) (by omega)
                    · exact HA.out j (by omega)
                  case measure => simp [intOf]; omega
            · have hne : (f != (k : Int)) = true := by simpa using hfk
              have HFK := hid hfk
              clear hfk
              go_wp2_with (first | (go_at_call 78; refine (rname_is HS.out hb).mono ?_; rintro e w' ⟨rfl, rfl⟩) | (go_at_call 38; refine (rfind_is (HV.out.on HB.out) HF.out).mono ?_; rintro e w2 ⟨rfl, hbl⟩; have hc2 := cell_on HC1.out hbl; have HBL := hid hbl; clear hbl))
              go_ret
              exact ⟨ret_bool ((colsB_bad hkc (by rw [HCC.out]; exact colOk_find (by rw [HF.out]; exact HFK.out))).symm.trans HR.out), below_on HB.out HBL.out⟩
        · have hks : k = n := by omega
          subst hks
          go_wp2
          go_ret
          exact ⟨ret_bool ((colsB_yes (by rw [HN.out]; omega) (by rw [HN.out]; exact HA.out)).symm.trans HR.out), HB.out⟩
end Go.Proofs.Ytopjpkkidjlbeaa.TN
namespace Go.Proofs.Ytopjpkkidjlbeaa.TN
open Go.RowKit Go.Sort Go.Shelf

theorem rcols_is {v : Value} {cs : List Cl} {r : Bool} {w : World} (hv : ColsAt w v cs) (h : colsB cs = r) : Calls Try.prog 49 #[v] w fun e w' => e = .returned (.bool r) ∧ Below w.heap.size w w' := by rw [← h]; exact rcols_any hv
theorem rvalid_is {x : Vl} {r : Bool} {w : World} (h : validL x = r) : Calls Try.prog 50 #[x.val] w fun e w' => e = .returned (.bool r) ∧ Below w.heap.size w w' := by rw [← h]; exact rvalid_any
set_option maxHeartbeats 2000000 in
theorem rcheck_any {v : Value} {cs : List Cl} {rs : List Rw} {w : World} (hv : TabAt w v cs rs) :
    Calls Try.prog 26 #[v] w fun e w' => e = .returned (.int .i64 (checkV cs rs)) ∧ Below w.heap.size w w' := by
  obtain ⟨c, rv, rfl, hc, hs, hrs, hh⟩ := hv
  have HC := hid hc
  obtain ⟨p, cap, rfl, hcap, hmax, hx⟩ := hrs
  obtain ⟨q, cap', rfl, hcap', hmax', hy⟩ := hc
  unfold maxLen at hmax hmax'
  generalize hr : checkV cs rs = res
  have HR := hid hr
  have HX := hid hx
  have HY := hid hy
  have HH := hid hh
  clear hr hx hh hy
  generalize hn : hs.length = n at *
  generalize hm : cs.length = m at *
  have HN := hid hn
  have HM := hid hm
  clear hn hm
  have HE : Hid (Below w.heap.size w (w.alloc (.cells #[.slice q m cap', .slice p n cap] 28))) := (Below.refl _ _).alloc (Nat.le_refl _) _
  have KB := hid (alloc_block w (.cells #[.slice q m cap', .slice p n cap] 28))
  cases hb : colsB cs with
  | false =>
    go_enter Try.func26, Try.ntmps26
    go_wp2_with (first | (go_at_call 49; refine (rcols_is (HC.out.on HE.out) hb).mono ?_; rintro e w1 ⟨rfl, hb1⟩))
    go_ret
    exact ⟨ret_int ((check_cols hb).symm.trans HR.out), below_on HE.out hb1⟩
  | true =>
    have HCB := hid hb
    go_enter Try.func26, Try.ntmps26
    go_wp2_with (first | (go_at_call 49; refine (rcols_is (HC.out.on HE.out) hb).mono ?_; rintro e w1 ⟨rfl, hb1⟩; have HB1 := hid (below_on HE.out hb1); have KB1 := hid (block_on KB.out hb1); have kb1 := block_cell KB1.out; clear hb1))
    clear kb1 hb HE KB
    go_loopw [3] (fun i wr => ∃ k : Nat, k ≤ n ∧ i = .int .i64 k ∧ Hid (Below w.heap.size w wr) ∧ Hid (wr.heap[w.heap.size]? = some (.cells #[.slice q m cap', .slice p n cap] 28 (0, 0))) ∧ Hid (∀ j, j < k → rowB cs rs[j]! = true)) (fun i _ => n - (intOf i).toNat)
    case atStart => exact ⟨0, by omega, rfl, HB1.out, KB1.out, fun j h => absurd h (Nat.not_lt_zero _)⟩
    case round =>
      clear HB1 KB1
      obtain ⟨k, hk, rfl, HB, HK, HA⟩ := hrel
      have k0 := block_cell HK.out
      by_cases hlt : k < n
      · have hkh : k < hs.length := by rw [HN.out]; exact hlt
        have hkr : k < rs.length := by rw [← HH.out.1]; exact hkh
        obtain ⟨b, o, rfl, -, hj⟩ := HX.out (by intro e; subst e; simp at hkh)
        have hd := head_cell (fun j x hjx => (hj j x hjx).on HB.out) (get!_some hkh)
        have HRow := hid ((HH.out.2 k _ _ (get!_some hkh) (get!_some hkr)).on HB.out)
        have HBAD := hid (fun h => check_bad (cs := cs) (rs := rs) HCB.out hkr h)
        have HSTEP : Hid (rowB cs rs[k]! = true → ∀ j, j < k + 1 → rowB cs rs[j]! = true) := fun e j hj => by
          by_cases h : j = k
          · subst h; exact e
          · exact HA.out j (by omega)
        generalize hs[k]! = hd0 at hd HRow
        generalize rs[k]! = r at HRow HBAD HSTEP
        clear hj
        obtain ⟨q', capr, rfl, hcapr, hmaxr, hz⟩ := HRow.out
        unfold maxLen at hmaxr
        have HZ := hid hz
        clear hz
        generalize hl : r.length = l at *
        have HL := hid hl
        clear hl
        by_cases hlm : l = m
        · have hne : ((l : Int) != (m : Int)) = false := by simp; omega
          go_wp2_with fail
          go_quiet (fail)
          have HB2 := hid (below_drewN HB.out nq)
          have HK2 := hid (show (wr.drewN nq).heap[w.heap.size]? = _ from HK.out)
          have hd2 : (wr.drewN nq).cell? ⟨b, o + k, none⟩ = _ := hd
          have HD2 := hid hd2
          have HZ2 : Hid (r ≠ [] → ∃ b o, q' = some ⟨b, o, none⟩ ∧ (any b ∧ l * bsz 11 ≤ 140737488355328) ∧ ∀ (j : Nat) x, r[j]? = some x → CellsAt (wr.drewN nq) b (o + j * 11) x.cells) := fun hne => by
            obtain ⟨b, o, hp, hQ, hj⟩ := HZ.out hne
            exact ⟨b, o, hp, hQ, fun j x hjx => (hj j x hjx).on (below_drewN (Below.refl _ _) nq)⟩
          clear k0 hd HB HK HZ HRow hd2
          generalize wr.drewN nq = w3 at *
          go_wp2
          go_loopw [4] (fun i w4 => ∃ j : Nat, j ≤ m ∧ i = .int .i64 j ∧ Hid (Below w3.heap.size w3 w4) ∧ Hid (∀ t, t < j → fitB cs[t]!.kd r[t]! = true)) (fun i _ => m - (intOf i).toNat)
          case atStart => exact ⟨0, by omega, rfl, Below.refl _ _, fun j h => absurd h (Nat.not_lt_zero _)⟩
          case round =>
            obtain ⟨j, hj, rfl, HB4, HF⟩ := hrel
            have HB5 := hid (below_on HB2.out HB4.out)
            have HK5 := hid (block_on HK2.out HB4.out)
            have kk := block_cell HK5.out
            by_cases hjm : j < m
            · have hjr : j < r.length := by rw [HL.out]; omega
              have hjc : j < cs.length := by rw [HM.out]; exact hjm
              obtain ⟨b1, o1, rfl, -, hv1⟩ := HZ2.out (by intro e; subst e; simp at hjr)
              obtain ⟨b2, o2, rfl, -, hv2⟩ := HY.out (by intro e; subst e; simp at hjc)
              obtain ⟨c0, c1, c2, c3, c4, c5, c6, c7, c8, c9, c10⟩ := val_cells ((hv1 j _ (get!_some hjr)).on HB4.out)
              obtain ⟨e0, e1⟩ := col_cells ((hv2 j _ (get!_some hjc)).on HB5.out)
              have hd5 := cell_on HD2.out HB4.out
              have HFBAD := hid (fun h => rowB_bad (cs := cs) (r := r) hjr h)
              have HFSTEP : Hid (fitB cs[j]!.kd r[j]! = true → ∀ t, t < j + 1 → fitB cs[t]!.kd r[t]! = true) := fun e t ht => by
                by_cases h : t = j
                · subst h; exact e
                · exact HF.out t (by omega)
              generalize r[j]! = x at c0 c1 c2 c3 c4 c5 c6 c7 c8 c9 c10 HFBAD HFSTEP
              generalize cs[j]! = y at e0 e1 HFBAD HFSTEP
              clear hv1 hv2 HZ2
              replace c0 := regrown_cell c0
              replace c1 := regrown_cell c1
              replace c2 := regrown_cell c2
              replace c3 := regrown_cell c3
              replace c4 := regrown_cell c4
              replace c5 := regrown_cell c5
              replace c6 := regrown_cell c6
              replace c7 := regrown_cell c7
              replace c8 := regrown_cell c8
              replace c9 := regrown_cell c9
              replace c10 := regrown_cell c10
              replace e1 := regrown_cell e1
              replace hd5 := regrown_cell hd5
              have kk0 : ∀ d os i, (grow (redrawn wr d) os).cell? ⟨w.heap.size, i, none⟩ = (#[.slice (some ⟨b2, o2, none⟩) m cap', .slice (some ⟨b, o, none⟩) n cap] : Array Value)[i]? := fun d os i => block_cell (block_on HK5.out (below_regrown wr d os)) i
              clear e0
              by_cases hkd : x.k = y.kd
              · have hkn : (x.k != y.kd) = false := by simpa using hkd
                have HKD := hid hkd
                clear hkd
                cases hvl : validL x with
                | true =>
                  go_wp2_with fail
                  refine wp_region_quiet_below (by kernel_rfl) (by kernel_rfl) ?_
                  repeat (go_big_quiet_step (first | (go_at_call 50; exact Calls.regrown_of (rvalid_is hvl))))
                  refine wpQuiet_nil ?_
                  intro _ hw'
                  obtain ⟨⟨dq, osq⟩, hw''⟩ := hw'
                  subst hw''
                  go_wp2
                  go_roundw
                  case rel => exact ⟨j + 1, by omega, by go_num, below_on HB4.out (below_regrown wr dq osq), HFSTEP.out (by rw [fit_is HKD.out]; exact hvl)⟩
                  case measure => simp [intOf]; omega
                | false =>
                  go_wp2_with fail
                  refine wp_region_quiet_below (by kernel_rfl) (by kernel_rfl) ?_
                  repeat (go_big_quiet_step (first | (go_at_call 50; exact Calls.regrown_of (rvalid_is hvl))))
                  refine wpQuiet_nil ?_
                  intro _ hw'
                  obtain ⟨⟨dq, osq⟩, hw''⟩ := hw'
                  subst hw''
                  go_wp2
                  go_ret
                  exact ⟨ret_int ((HBAD.out (HFBAD.out (by rw [fit_is HKD.out]; exact hvl))).symm.trans HR.out), below_on HB5.out (below_regrown wr dq osq)⟩
              · have hkn : (x.k != y.kd) = true := by simpa using hkd
                have HKD := hid hkd
                clear hkd
                go_wp2_with fail
                refine wp_region_quiet_below (by kernel_rfl) (by kernel_rfl) ?_
                repeat (go_big_quiet_step (first | fail))
                refine wpQuiet_nil ?_
                intro _ hw'
                obtain ⟨⟨dq, osq⟩, hw''⟩ := hw'
                subst hw''
                go_wp2
                go_ret
                exact ⟨ret_int ((HBAD.out (HFBAD.out (fit_no HKD.out))).symm.trans HR.out), below_on HB5.out (below_regrown wr dq osq)⟩
            · have hjs : j = m := by omega
              subst hjs
              go_wp2
              go_roundw
              case rel => exact ⟨k + 1, by omega, by go_num, HB5.out, HK5.out, HSTEP.out (rowB_yes (by rw [HL.out, HM.out]; exact hlm) (by rw [HL.out, hlm]; exact HF.out))⟩
              case measure => simp [intOf]; omega
        · have hne : ((l : Int) != (m : Int)) = true := by simp; omega
          go_wp2_with fail
          go_quiet (fail)
          go_wp2
          go_ret
          exact ⟨ret_int ((HBAD.out (rowB_no (by rw [HL.out, HM.out]; exact hlm))).symm.trans HR.out), below_drewN HB.out _⟩
      · have hks : k = n := by omega
        subst hks
        go_wp2
        go_ret
        exact ⟨ret_int ((check_ok HCB.out (by rw [← HH.out.1, HN.out]; exact HA.out)).symm.trans HR.out), HB.out⟩
end Go.Proofs.Ytopjpkkidjlbeaa.TN
namespace Go.Proofs.Ytopjpkkidjlbeaa.TN
open Go.RowKit Go.Sort Go.Shelf

theorem SlAt.take {α : Type} {Q : Nat → Prop} {enc : α → List Value} {k : Nat} {w : World} {p : Option Addr} {n cap : Nat} {xs : List α} (h : SlAt Q enc k w (.slice p n cap) xs) (m : Nat) (hm : m ≤ n) : SlAt Q enc k w (.slice p m cap) (xs.take m) := by
  obtain ⟨p', cap', hv, ⟨hc, hno⟩, hmx, hx⟩ := h
  cases hv
  have hl : (xs.take m).length = m := by simp; omega
  refine ⟨p, cap, by rw [hl], ⟨by omega, hno⟩, by omega, fun hne => ?_⟩
  obtain ⟨b, o, hp, hQ, hj⟩ := hx (by intro e; subst e; simp at hne)
  refine ⟨b, o, hp, ⟨hQ.1, Nat.le_trans (Nat.mul_le_mul_right _ (by omega)) hQ.2⟩, fun j x hjx => hj j x ?_⟩
  have hlt : j < m := by have := (List.getElem?_eq_some_iff.1 hjx).1; omega
  rwa [List.getElem?_take_of_lt hlt] at hjx
theorem HeadsIn.take {Q : Nat → Prop} {w : World} {hs : List Value} {rs : List Rw} (h : HeadsIn Q w hs rs) (m : Nat) : HeadsIn Q w (hs.take m) (rs.take m) := by
  refine ⟨by rw [List.length_take, List.length_take, h.1], fun j x r h1 h2 => ?_⟩
  have hlt : j < m := by have := (List.getElem?_eq_some_iff.1 h1).1; simp at this; omega
  rw [List.getElem?_take_of_lt hlt] at h1 h2
  exact h.2 j x r h1 h2
end Go.Proofs.Ytopjpkkidjlbeaa.TN
namespace Go.Proofs.Ytopjpkkidjlbeaa.TN
open Go.RowKit Go.Sort Go.Shelf

theorem one_cell {v : Value} (h : v.oneCell' = true) : ∀ y ∈ [v], ∀ c ∈ one y, c.oneCell' = true := by
  intro y hy c hc
  simp at hy; subst hy
  simp [one] at hc; subst hc
  exact h
theorem row_cell {Q : Nat → Prop} {w : World} {v : Value} {r : Rw} (h : RowIn Q w v r) : v.oneCell' = true := by
  obtain ⟨p, cap, rfl, -⟩ := h; rfl
theorem heads_cells {Q : Nat → Prop} {w : World} {hs : List Value} {rs : List Rw} (h : HeadsIn Q w hs rs) : ∀ y ∈ hs, ∀ c ∈ one y, c.oneCell' = true := by
  intro y hy c hc
  simp [one] at hc; subst hc
  obtain ⟨j, hj⟩ := List.getElem?_of_mem hy
  have hlt : j < rs.length := by rw [← h.1]; exact (List.getElem?_eq_some_iff.1 hj).1
  exact row_cell (h.2 j _ _ hj (get!_some hlt))
theorem HeadsIn.snoc' {Q : Nat → Prop} {w : World} {hs : List Value} {rs : List Rw} {h : Value} {r : Rw} (hh : HeadsIn Q w hs rs) (hr : RowIn Q w h r) : HeadsIn Q w (hs ++ [h]) (rs ++ [r]) := by
  refine ⟨by simp [hh.1], fun j x q h1 h2 => ?_⟩
  by_cases hlt : j < hs.length
  · rw [List.getElem?_append_left hlt] at h1
    rw [List.getElem?_append_left (by rw [← hh.1]; exact hlt)] at h2
    exact hh.2 j x q h1 h2
  · have hj : j = hs.length := by have := (List.getElem?_eq_some_iff.1 h1).1; simp at this; omega
    subst hj
    rw [List.getElem?_append_right (Nat.le_refl _)] at h1
    rw [hh.1, List.getElem?_append_right (Nat.le_refl _)] at h2
    simp at h1 h2
    subst h1 h2
    exact hr
theorem bound1 {n m : Nat} (h : n * bsz 1 ≤ 140737488355328) (hm : m ≤ n) : m * bsz 1 ≤ 140737488355328 := Nat.le_trans (Nat.mul_le_mul_right _ hm) h
theorem below_on2 {W w1 w2 : World} (h : Below W.heap.size W w1) (h2 : Below w1.heap.size w1 w2) : Below W.heap.size W w2 := below_on h h2
theorem sl_cell {Q : Nat → Prop} {w : World} {p : Option Addr} {n cap : Nat} {hs : List Value} {k : Nat} (h : SlAt Q one 1 w (.slice p n cap) hs) (hk : k < hs.length) : ∃ b o, p = some ⟨b, o, none⟩ ∧ w.cell? ⟨b, o + k, none⟩ = some hs[k]! := by
  obtain ⟨p', cap', hv, -, -, hx⟩ := h
  cases hv
  obtain ⟨b, o, hp, -, hj⟩ := hx (by intro e; subst e; simp at hk)
  exact ⟨b, o, hp, head_cell hj (get!_some hk)⟩
def Sorts (Q : Nat → Prop) (w : World) (v : Value) (rs : List Rw) : Prop := Calls Try.prog 48 #[v] w fun e w' => ∃ v' hs', e = .returned v' ∧ SlAt (fun b => w.heap.size ≤ b) one 1 w' v' hs' ∧ HeadsIn Q w' hs' (sortR rs) ∧ Below w.heap.size w w'
set_option maxHeartbeats 1000000 in
theorem sorted_short {Q : Nat → Prop} {v : Value} {hs : List Value} {rs : List Rw} {w : World} (hv : SlAt any one 1 w v hs) (hh : HeadsIn Q w hs rs) (hl : hs.length < 2) : Sorts Q w v rs := by
  unfold Sorts
  rw [sortR_short (by rw [← hh.1]; exact hl)]
  have HV := hid hv
  have HH := hid hh
  obtain ⟨p, cap, rfl, hcap, hmax, hx⟩ := hv
  clear hmax hx hh hcap
  generalize hn : hs.length = n at *
  have HN := hid hn
  clear hn
  go_enter Try.func48, Try.ntmps48
  go_wp2_with (at_builtin; refine app_any elem35 one_len (heads_cells HH.out) rfl _ _ rfl rfl (Own.made one 1 33 w.heap.size w (Nat.le_refl _)) rfl (SlAt.on HV.out ((Below.refl _ _).alloc (Nat.le_refl _) _)) (by simpa using SlAt.bound HV.out) (by simp) ?_; intro v' w1 hown hb1)
  have hb2 : Below w.heap.size w w1 := ((Below.refl _ _).alloc (Nat.le_refl _) _).trans hb1
  rw [List.nil_append] at hown
  go_ret
  exact ⟨_, hs, rfl, Own.sl hown one_len (SlAt.bound HV.out), HH.out.on hb2, hb2⟩
set_option maxHeartbeats 2000000 in
theorem sorted_long {Q : Nat → Prop} {p : Option Addr} {cap : Nat} {hs : List Value} {rs : List Rw} {w : World} (hv : SlAt any one 1 w (.slice p hs.length cap) hs) (hh : HeadsIn Q w hs rs) (hl : 2 ≤ hs.length)
    (ih : ∀ (w1 : World) (u : Value) (h1 : List Value) (r1 : List Rw), h1.length < hs.length → SlAt any one 1 w1 u h1 → HeadsIn Q w1 h1 r1 → Sorts Q w1 u r1) : Sorts Q w (.slice p hs.length cap) rs := by
  obtain ⟨h, hhd⟩ : ∃ h, hs.length / 2 = h := ⟨_, rfl⟩
  have hcap : hs.length ≤ cap ∧ hs.length ≤ maxLen := by
    obtain ⟨p', cap2, e, ⟨hcap, -⟩, hmx, -⟩ := id hv
    cases e
    exact ⟨hcap, hmx⟩
  obtain ⟨hcap, hmx⟩ := hcap
  have C1 : Hid (Sorts Q w (.slice p h cap) (rs.take h)) := ih w _ (hs.take h) (rs.take h) (by simp; omega) (hv.take h (by omega)) (hh.take h)
  have C2 : Hid (∀ W, Below w.heap.size w W → Sorts Q W (.slice (Option.map (fun x => x.add h) p) (hs.length - h) (cap - h)) (rs.drop h)) := fun W hb => by
    have hd := hv.drop rfl h (by omega)
    rw [if_neg (by omega)] at hd
    exact ih W _ (hs.drop h) (rs.drop h) (by simp; omega) (hd.on hb) ((hh.drop h).on hb)
  have HRS : Hid (mergeR (sortR (rs.take h)) (sortR (rs.drop h)) = sortR rs) := by rw [mergeR_sort, List.take_append_drop]; exact rfl
  have HBD := hid (SlAt.bound hv)
  have hla : (sortR (rs.take h)).length = h := by rw [sortR_length, List.length_take, ← hh.1]; omega
  have hlb : (sortR (rs.drop h)).length = hs.length - h := by rw [sortR_length, List.length_drop, ← hh.1]
  unfold Sorts at C1 C2 ⊢
  clear ih hv
  generalize sortR (rs.take h) = A at *
  generalize sortR (rs.drop h) = B at *
  generalize sortR rs = R at *
  clear hh
  generalize hs.length = n at *
  unfold maxLen at hmx
  have hq : (n : Int) / 2 = (h : Int) := by omega
  have hhn : h ≤ n := by omega
  have hh0 : 0 < h := by omega
  have HLA := hid hla
  have HLB := hid hlb
  generalize hm : n - h = m at *
  clear hla hlb hhd
  have M1 : Hid True := trivial
  have M2 : Hid True := trivial
  go_enter Try.func48, Try.ntmps48
  go_wp2_with (first
    | (go_at_call 48; clear M1; refine C1.out.mono ?_; rintro e w1 ⟨v1, ha, rfl, hs1, hh1, hb1⟩; have HS1 := hid hs1; have HH1 := hid hh1; have HB1 := hid hb1; obtain ⟨pa, capa, rfl, -⟩ := hs1; rw [show ha.length = h by rw [HH1.out.1, HLA.out]] at HS1 ⊢; clear hh1 hb1)
    | (go_at_call 48; clear M2; refine (C2.out _ HB1.out).mono ?_; rintro e w2 ⟨v2, hb, rfl, hs2, hh2, hb2⟩; have HS2 := hid hs2; have HH2 := hid hh2; have HB2 := hid hb2; obtain ⟨pb, capb, rfl, -⟩ := hs2; rw [show hb.length = m by rw [HH2.out.1, HLB.out]] at HS2 ⊢; clear hh2 hb2))
  have HSA := hid (HS1.out.on HB2.out)
  have HHA := hid (HH1.out.on HB2.out)
  have HBD' : h + m = n := by omega
  clear C1 C2 HS1 HH1
  go_loopw [5, 6, 7] (fun o i k wr => ∃ (i' k' : Nat) (oh : List Value) (acc : List Rw), i' ≤ h ∧ k' ≤ m ∧ i = .int .i64 i' ∧ k = .int .i64 k' ∧ oh.length = i' + k' ∧ Hid (Own one 1 33 w2.heap.size wr o oh) ∧ Hid (HeadsIn Q w2 oh acc) ∧ Hid (acc ++ mergeR (A.drop i') (B.drop k') = R) ∧ Hid (Below w2.heap.size w2 wr)) (fun _ i k _ => (h + m) - ((intOf i).toNat + (intOf k).toNat))
  case atStart => exact ⟨0, 0, [], [], by omega, by omega, rfl, rfl, rfl, Own.nil _ _ _ _ _, ⟨rfl, fun j x r h1 _ => by simp at h1⟩, HRS.out, Below.refl _ _⟩
  case round =>
    obtain ⟨i', k', oh, acc, hi, hk, rfl, rfl, hlen, HO, KO, HM, HB⟩ := hrel
    by_cases hlt : i' < h
    · have hia : i' < ha.length := by rw [HHA.out.1, HLA.out]; exact hlt
      have hiA : i' < A.length := by rw [HLA.out]; exact hlt
      obtain ⟨ba, oa, rfl, hja⟩ := sl_cell HSA.out hia
      have HRA := hid (HHA.out.2 i' _ _ (get!_some hia) (get!_some hiA))
      have HCA := hid (cell_on hja HB.out)
      have HLe := hid (fun hk => mergeR_left (a := A) (b := B) (i := i') (k := k') hiA hk)
      have HLt := hid (fun hk h => mergeR_le (a := A) (b := B) (i := i') (k := k') hiA hk h)
      have HGt := hid (fun hk h => mergeR_gt (a := A) (b := B) (i := i') (k := k') hiA hk h)
      generalize ha[i']! = hda at *
      generalize A[i']! = ra at *
      clear hja
      by_cases hlk : k' < m
      · have hkb : k' < hb.length := by rw [HH2.out.1, HLB.out]; exact hlk
        have hkB : k' < B.length := by rw [HLB.out]; exact hlk
        obtain ⟨bb, ob, rfl, hjb⟩ := sl_cell HS2.out hkb
        have HRB := hid (HH2.out.2 k' _ _ (get!_some hkb) (get!_some hkB))
        have HCB := hid (cell_on hjb HB.out)
        generalize hb[k']! = hdb at *
        generalize B[k']! = rb at *
        clear hjb
        have e1 : ((k' : Int) == (m : Int)) = false := by rw [Bool.eq_false_iff]; intro e; have := beq_iff_eq.1 e; omega
        have ca := regrown_cell HCA.out
        have cb := regrown_cell HCB.out
        have HRA' : ∀ d os, Hid (RowAt (grow (redrawn wr d) os) hda ra) := fun d os => (HRA.out.on (below_on2 HB.out (below_regrown wr d os))).at
        have HRB' : ∀ d os, Hid (RowAt (grow (redrawn wr d) os) hdb rb) := fun d os => (HRB.out.on (below_on2 HB.out (below_regrown wr d os))).at
        by_cases hc : cmpR ra rb ≤ 0
        · obtain ⟨c, hcv⟩ : ∃ c, cmpR ra rb = c := ⟨_, rfl⟩
          have HCV := hid hcv
          have hc0 : decide (c ≤ 0) = true := by rw [← hcv]; exact decide_eq_true hc
          have HCC := hid hc
          clear hcv hc
          go_wp2_with fail
          refine wp_region_quiet_below (by kernel_rfl) (by kernel_rfl) ?_
          repeat (go_big_quiet_step (first | (go_at_call 44; exact Calls.regrown_of (rrow_is (HRA' _ _).out (HRB' _ _).out HCV.out))))
          refine wpQuiet_nil ?_
          intro _ hw'
          obtain ⟨⟨dq, osq⟩, hw''⟩ := hw'
          subst hw''
          have HBW := hid (HB.out.trans ((below_regrown wr dq osq).mono HB.out.size))
          have HOW := hid (Own.on HO.out (below_regrown wr dq osq))
          have cw := cell_on HCA.out (below_regrown wr dq osq)
          clear ca cb HRA' HRB'
          generalize grow (redrawn wr dq) osq = W at *
          obtain ⟨px, capx, rfl, -⟩ := id HRA.out
          go_wp2_with (at_builtin; refine app_any elem35 one_len (ys := [.slice px ra.length capx]) (one_cell (row_cell HRA.out)) rfl _ _ rfl rfl (Own.on HOW.out ((Below.refl _ _).alloc (Nat.le_refl _) _)) rfl (lit_sl (alloc_block _ _) one_len rfl rfl (Nat.le_refl _) (by simp)) (bound1 HBD.out (by simp; omega)) (Nat.le_trans HBW.out.size (by simp)) ?_; intro v' w3 hown hb3)
          go_roundw
          case rel =>
            refine ⟨i' + 1, k', oh ++ [_], acc ++ [ra], by omega, by omega, by go_num, rfl, by simp; omega, hown, KO.out.snoc' HRA.out, ?_, (HBW.out.alloc HBW.out.size _).trans hb3⟩
            have hx := HLt.out hkB HCC.out
            rw [← HM.out, hx, List.append_assoc]; rfl
          case measure => simp [intOf]; omega
        · obtain ⟨c, hcv⟩ : ∃ c, cmpR ra rb = c := ⟨_, rfl⟩
          have HCV := hid hcv
          have hc0 : decide (c ≤ 0) = false := by rw [← hcv]; exact decide_eq_false hc
          have HCC := hid hc
          clear hcv hc
          go_wp2_with fail
          refine wp_region_quiet_below (by kernel_rfl) (by kernel_rfl) ?_
          repeat (go_big_quiet_step (first | (go_at_call 44; exact Calls.regrown_of (rrow_is (HRA' _ _).out (HRB' _ _).out HCV.out))))
          refine wpQuiet_nil ?_
          intro _ hw'
          obtain ⟨⟨dq, osq⟩, hw''⟩ := hw'
          subst hw''
          have HBW := hid (HB.out.trans ((below_regrown wr dq osq).mono HB.out.size))
          have HOW := hid (Own.on HO.out (below_regrown wr dq osq))
          have cw := cell_on HCB.out (below_regrown wr dq osq)
          clear ca cb HRA' HRB'
          generalize grow (redrawn wr dq) osq = W at *
          obtain ⟨px, capx, rfl, -⟩ := id HRB.out
          go_wp2_with (at_builtin; refine app_any elem35 one_len (ys := [.slice px rb.length capx]) (one_cell (row_cell HRB.out)) rfl _ _ rfl rfl (Own.on HOW.out ((Below.refl _ _).alloc (Nat.le_refl _) _)) rfl (lit_sl (alloc_block _ _) one_len rfl rfl (Nat.le_refl _) (by simp)) (bound1 HBD.out (by simp; omega)) (Nat.le_trans HBW.out.size (by simp)) ?_; intro v' w3 hown hb3)
          go_roundw
          case rel =>
            refine ⟨i', k' + 1, oh ++ [_], acc ++ [rb], by omega, by omega, rfl, by go_num, by simp; omega, hown, KO.out.snoc' HRB.out, ?_, (HBW.out.alloc HBW.out.size _).trans hb3⟩
            have hx := HGt.out hkB HCC.out
            rw [← HM.out, hx, List.append_assoc]; rfl
          case measure => simp [intOf]; omega
      · have hkm : k' = m := by omega
        subst hkm
        go_wp2_with fail
        refine wp_region_quiet_below (by kernel_rfl) (by kernel_rfl) ?_
        repeat (go_big_quiet_step (first | fail))
        refine wpQuiet_nil ?_
        intro _ hw'
        obtain ⟨⟨dq, osq⟩, hw''⟩ := hw'
        subst hw''
        have HBW := hid (HB.out.trans ((below_regrown wr dq osq).mono HB.out.size))
        have HOW := hid (Own.on HO.out (below_regrown wr dq osq))
        have cw := cell_on HCA.out (below_regrown wr dq osq)
        generalize grow (redrawn wr dq) osq = W at *
        obtain ⟨px, capx, rfl, -⟩ := id HRA.out
        go_wp2_with (at_builtin; refine app_any elem35 one_len (ys := [.slice px ra.length capx]) (one_cell (row_cell HRA.out)) rfl _ _ rfl rfl (Own.on HOW.out ((Below.refl _ _).alloc (Nat.le_refl _) _)) rfl (lit_sl (alloc_block _ _) one_len rfl rfl (Nat.le_refl _) (by simp)) (bound1 HBD.out (by simp; omega)) (Nat.le_trans HBW.out.size (by simp)) ?_; intro v' w3 hown hb3)
        go_roundw
        case rel =>
          refine ⟨i' + 1, k', oh ++ [_], acc ++ [ra], by omega, by omega, by go_num, rfl, by simp; omega, hown, KO.out.snoc' HRA.out, ?_, (HBW.out.alloc HBW.out.size _).trans hb3⟩
          have hx := HLe.out (by rw [HLB.out]; exact Nat.le_refl _)
          rw [← HM.out, hx, List.append_assoc]; rfl
        case measure => simp [intOf]; omega
    · have hih : i' = h := by omega
      subst hih
      by_cases hlk : k' < m
      · have hkb : k' < hb.length := by rw [HH2.out.1, HLB.out]; exact hlk
        have hkB : k' < B.length := by rw [HLB.out]; exact hlk
        obtain ⟨bb, ob, rfl, hjb⟩ := sl_cell HS2.out hkb
        have HRB := hid (HH2.out.2 k' _ _ (get!_some hkb) (get!_some hkB))
        have HCB := hid (cell_on hjb HB.out)
        have HRt := hid (fun hi => mergeR_right (a := A) (b := B) (i := i') (k := k') hi hkB)
        generalize hb[k']! = hdb at *
        generalize B[k']! = rb at *
        clear hjb
        have e1 : ((k' : Int) == (m : Int)) = false := by rw [Bool.eq_false_iff]; intro e; have := beq_iff_eq.1 e; omega
        go_wp2_with fail
        refine wp_region_quiet_below (by kernel_rfl) (by kernel_rfl) ?_
        repeat (go_big_quiet_step (first | fail))
        refine wpQuiet_nil ?_
        intro _ hw'
        obtain ⟨⟨dq, osq⟩, hw''⟩ := hw'
        subst hw''
        have HBW := hid (HB.out.trans ((below_regrown wr dq osq).mono HB.out.size))
        have HOW := hid (Own.on HO.out (below_regrown wr dq osq))
        have cw := cell_on HCB.out (below_regrown wr dq osq)
        generalize grow (redrawn wr dq) osq = W at *
        obtain ⟨px, capx, rfl, -⟩ := id HRB.out
        go_wp2_with (at_builtin; refine app_any elem35 one_len (ys := [.slice px rb.length capx]) (one_cell (row_cell HRB.out)) rfl _ _ rfl rfl (Own.on HOW.out ((Below.refl _ _).alloc (Nat.le_refl _) _)) rfl (lit_sl (alloc_block _ _) one_len rfl rfl (Nat.le_refl _) (by simp)) (bound1 HBD.out (by simp; omega)) (Nat.le_trans HBW.out.size (by simp)) ?_; intro v' w3 hown hb3)
        go_roundw
        case rel =>
          refine ⟨i', k' + 1, oh ++ [_], acc ++ [rb], by omega, by omega, rfl, by go_num, by simp; omega, hown, KO.out.snoc' HRB.out, ?_, (HBW.out.alloc HBW.out.size _).trans hb3⟩
          have hx := HRt.out (by rw [HLA.out]; exact Nat.le_refl _)
          rw [← HM.out, hx, List.append_assoc]; rfl
        case measure => simp [intOf]; omega
      · have hkm : k' = m := by omega
        subst hkm
        go_wp2
        go_ret
        have he : acc = R := by
          have := HM.out
          rw [List.drop_eq_nil_of_le (by rw [HLA.out]; exact Nat.le_refl _), List.drop_eq_nil_of_le (by rw [HLB.out]; exact Nat.le_refl _)] at this
          rw [← this]; simp [mergeR]
        subst he
        have hsz : w.heap.size ≤ w2.heap.size := Nat.le_trans HB1.out.size HB2.out.size
        exact ⟨_, oh, rfl, (Own.sl HO.out one_len (bound1 HBD.out (by omega))).imp (fun b hb => Nat.le_trans hsz hb), KO.out.on HB.out, (below_on HB1.out HB2.out).trans (HB.out.mono hsz)⟩
theorem sorted_any {Q : Nat → Prop} : ∀ (n : Nat) {v : Value} {hs : List Value} {rs : List Rw} {w : World}, hs.length ≤ n → SlAt any one 1 w v hs → HeadsIn Q w hs rs → Sorts Q w v rs := by
  intro n
  induction n with
  | zero => intro v hs rs w hn hv hh; exact sorted_short hv hh (by omega)
  | succ n ih =>
    intro v hs rs w hn hv hh
    by_cases hl : hs.length < 2
    · exact sorted_short hv hh hl
    · obtain ⟨p, cap, rfl, h1, h2, h3⟩ := hv
      exact sorted_long ⟨p, cap, rfl, h1, h2, h3⟩ hh (by omega) (fun w1 u h1 r1 hlt hs1 hh1 => ih (by omega) hs1 hh1)
end Go.Proofs.Ytopjpkkidjlbeaa.TN
