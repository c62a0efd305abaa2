/-
  What table.Check returns, for every table.
  What table.Check returns, for every table.
  What table.compareRows returns, for every two rows.
  Rows that are filled one by one; stores beside them.
  What table.Same returns, for every two tables.
-/
import Derived.Test.YtcidijjbcebcbaaKH10
import Derived.Laws.MakeOwn
import Derived.Deep.RegionHeld
import Derived.Deep.Heap
namespace Go.Proofs.Ytcidijjbcebcbaa.TN
open Go.RowKit Go.Sort Go.Shelf

instance : Inhabited Vl := ⟨⟨0, 0, ⟨#[]⟩, 0, 0, 0, 0, 0, 0, 0, 0, by decide⟩⟩
def colOk (cs : List Cl) (i : Nat) (c : Cl) : Bool := nameB c.nm && (decide (findC cs c.nm = (i : Int)) && (decide (1 ≤ c.kd) && decide (c.kd ≤ 4)))
def colsB (cs : List Cl) : Bool := decide ((1 ≤ cs.length ∧ cs.length ≤ 16) ∧ ∀ j, j < cs.length → colOk cs j cs[j]! = true)
theorem colsB_no {cs : List Cl} (h : ¬ (1 ≤ cs.length ∧ cs.length ≤ 16)) : colsB cs = false := by simp only [colsB, decide_eq_false_iff_not]; exact fun h' => h h'.1
theorem colsB_bad {cs : List Cl} {j : Nat} (hj : j < cs.length) (h : colOk cs j cs[j]! = false) : colsB cs = false := by
  simp only [colsB, decide_eq_false_iff_not]; intro h'; rw [h'.2 j hj] at h; cases h
theorem colsB_yes {cs : List Cl} (h : 1 ≤ cs.length ∧ cs.length ≤ 16) (ha : ∀ j, j < cs.length → colOk cs j cs[j]! = true) : colsB cs = true := by
  simp only [colsB, decide_eq_true_eq]; exact ⟨h, ha⟩
def fitB (k : Int) (v : Vl) : Bool := decide (v.k = k) && validL v
def rowB (cs : List Cl) (r : Rw) : Bool := decide (r.length = cs.length ∧ ∀ j, j < r.length → fitB cs[j]!.kd r[j]! = true)
theorem rowB_no {cs : List Cl} {r : Rw} (h : ¬ r.length = cs.length) : rowB cs r = false := by simp only [rowB, decide_eq_false_iff_not]; exact fun h' => h h'.1
theorem rowB_bad {cs : List Cl} {r : Rw} {j : Nat} (hj : j < r.length) (h : fitB cs[j]!.kd r[j]! = false) : rowB cs r = false := by
  simp only [rowB, decide_eq_false_iff_not]; intro h'; rw [h'.2 j hj] at h; cases h
theorem rowB_yes {cs : List Cl} {r : Rw} (h : r.length = cs.length) (ha : ∀ j, j < r.length → fitB cs[j]!.kd r[j]! = true) : rowB cs r = true := by
  simp only [rowB, decide_eq_true_eq]; exact ⟨h, ha⟩
def checkV (cs : List Cl) (rs : List Rw) : Int := if colsB cs = true then (if rs.all (rowB cs) = true then 0 else 21) else 20

theorem colOk_name {cs : List Cl} {i : Nat} {c : Cl} (h : nameB c.nm = false) : colOk cs i c = false := by simp [colOk, h]
theorem colOk_find {cs : List Cl} {i : Nat} {c : Cl} (h : ¬ findC cs c.nm = (i : Int)) : colOk cs i c = false := by simp [colOk, h]
theorem colOk_kind {cs : List Cl} {i : Nat} {c : Cl} (h : ¬ (1 ≤ c.kd ∧ c.kd ≤ 4)) : colOk cs i c = false := by
  unfold colOk
  have : (decide (1 ≤ c.kd) && decide (c.kd ≤ 4)) = false := by rw [← Bool.decide_and]; simp only [decide_eq_false_iff_not]; exact h
  rw [this]; simp
theorem colOk_yes {cs : List Cl} {i : Nat} {c : Cl} (h1 : nameB c.nm = true) (h2 : findC cs c.nm = (i : Int)) (h3 : 1 ≤ c.kd) (h4 : c.kd ≤ 4) : colOk cs i c = true := by simp [colOk, h1, h2, h3, h4]
set_option maxHeartbeats 1000000 in
theorem cols_any {v : Value} {cs : List Cl} {w : World} (hv : ColsAt w v cs) :
    Calls Try.prog 100 #[v] w fun e w' => e = .returned (.bool (colsB cs)) ∧ Below w.heap.size w w' := by
  have hv0 := hv
  obtain ⟨p, cap, rfl, hcap, hmax, hx⟩ := hv
  unfold maxLen at hmax
  generalize hr : colsB cs = r
  have HR := hid hr
  clear hr
  by_cases h1 : cs.length < 1
  · have g1 : (cs.length : Int) < 1 := by omega
    clear hx hv0
    go_enter Try.func100, Try.ntmps100
    go_wp2
    go_ret
    exact ⟨ret_bool ((colsB_no (by omega)).symm.trans HR.out), Below.refl _ _⟩
  · have g1 : ¬ (cs.length : Int) < 1 := by omega
    by_cases h2 : 16 < cs.length
    · have g2 : (16 : Int) < (cs.length : Int) := by omega
      clear hx hv0
      go_enter Try.func100, Try.ntmps100
      go_wp2
      go_ret
      exact ⟨ret_bool ((colsB_no (by omega)).symm.trans HR.out), Below.refl _ _⟩
    · have g2 : ¬ (16 : Int) < (cs.length : Int) := by omega
      obtain ⟨b, o, rfl, -, hj⟩ := hx (by intro e; subst e; simp at h1)
      have HV := hid hv0
      have HJ := hid hj
      clear hx hv0 hj
      generalize hn : cs.length = n at *
      have HN := hid hn
      clear hn
      go_enter Try.func100, Try.ntmps100
      go_wp2
      go_loopw [4, 15] (fun _ i wr => ∃ k : Nat, k ≤ n ∧ i = .int .i64 k ∧ Hid (Below w.heap.size w wr) ∧ Hid (∀ j, j < k → colOk cs j cs[j]! = true)) (fun _ i _ => n - (intOf i).toNat)
      case atStart => exact ⟨0, by omega, rfl, Below.refl _ _, fun j h => absurd h (Nat.not_lt_zero _)⟩
      case round =>
        obtain ⟨k, hk, rfl, HB, HA⟩ := hrel
        by_cases hlt : k < n
        · have hkc : k < cs.length := by rw [HN.out]; exact hlt
          obtain ⟨hc0, hc1⟩ := col_cells ((HJ.out k _ (get!_some hkc)).on HB.out)
          generalize hcc : cs[k]! = c at hc0 hc1
          have HCC := hid hcc
          clear hcc
          have hsz : w.heap.size ≤ wr.heap.size := HB.out.size
          have HS := hid c.small
          have HE : Hid (Below w.heap.size w (wr.alloc (.cells #[.string c.nm, .int .i64 c.kd] 61))) := HB.out.alloc hsz _
          cases hb : nameB c.nm with
          | false =>
            go_wp2_with (first | (go_at_call 121; refine (name_any HS.out).mono ?_; rintro e w' ⟨rfl, rfl⟩; rw [hb]))
            go_ret
            exact ⟨ret_bool ((colsB_bad hkc (by rw [HCC.out]; exact colOk_name hb)).symm.trans HR.out), HE.out⟩
          | true =>
            generalize hf : findC cs c.nm = f
            have HF := hid hf
            clear hf
            by_cases hfk : f = (k : Int)
            · subst hfk
              by_cases h3 : c.kd < 1
              · go_wp2_with (first | (go_at_call 121; refine (name_any HS.out).mono ?_; rintro e w' ⟨rfl, rfl⟩; rw [hb]) | (go_at_call 57; refine (find_any (HV.out.on HE.out)).mono ?_; rintro e w' ⟨rfl, hbl⟩; rw [HF.out]; obtain ⟨hcc, hff⟩ := bcell hbl))
                go_ret
                exact ⟨ret_bool ((colsB_bad hkc (by rw [HCC.out]; exact colOk_kind (by omega))).symm.trans HR.out), below_on HE.out hbl⟩
              · by_cases h4 : 4 < c.kd
                · go_wp2_with (first | (go_at_call 121; refine (name_any HS.out).mono ?_; rintro e w' ⟨rfl, rfl⟩; rw [hb]) | (go_at_call 57; refine (find_any (HV.out.on HE.out)).mono ?_; rintro e w' ⟨rfl, hbl⟩; rw [HF.out]; obtain ⟨hcc, hff⟩ := bcell hbl))
                  go_ret
                  exact ⟨ret_bool ((colsB_bad hkc (by rw [HCC.out]; exact colOk_kind (by omega))).symm.trans HR.out), below_on HE.out hbl⟩
                · go_wp2_with (first | (go_at_call 121; refine (name_any HS.out).mono ?_; rintro e w' ⟨rfl, rfl⟩; rw [hb]) | (go_at_call 57; refine (find_any (HV.out.on HE.out)).mono ?_; rintro e w' ⟨rfl, hbl⟩; rw [HF.out]; obtain ⟨hcc, hff⟩ := bcell hbl))
                  go_roundw
                  case rel =>
                    refine ⟨k + 1, by omega, by go_num, below_on HE.out hbl, fun j h => ?_⟩
                    by_cases e : j = k
                    · subst e; rw [HCC.out]; exact colOk_yes hb HF.out (by omega) (by omega)
                    · exact HA.out j (by omega)
                  case measure => simp [intOf]; omega
            · have hne : (f != (k : Int)) = true := by simpa using hfk
              have HFK := hid hfk
              clear hfk
              go_wp2_with (first | (go_at_call 121; refine (name_any HS.out).mono ?_; rintro e w' ⟨rfl, rfl⟩; rw [hb]) | (go_at_call 57; refine (find_any (HV.out.on HE.out)).mono ?_; rintro e w' ⟨rfl, hbl⟩; rw [HF.out]; obtain ⟨hcc, hff⟩ := bcell hbl))
              go_ret
              exact ⟨ret_bool ((colsB_bad hkc (by rw [HCC.out]; exact colOk_find (by rw [HF.out]; exact HFK.out))).symm.trans HR.out), below_on HE.out hbl⟩
        · have hks : k = n := by omega
          subst hks
          go_wp2
          go_ret
          exact ⟨ret_bool ((colsB_yes (by rw [HN.out]; omega) (by rw [HN.out]; exact HA.out)).symm.trans HR.out), HB.out⟩

abbrev vc (x : Vl) : Array Value := #[.int .i64 x.k, .int .i64 x.n, .string x.s, .int .i64 x.h0, .int .i64 x.h1, .int .i64 x.h2, .int .i64 x.h3, .int .i64 x.h4, .int .i64 x.h5, .int .i64 x.h6, .int .i64 x.h7]
theorem fit_no {k : Int} {v : Vl} (h : ¬ v.k = k) : fitB k v = false := by simp [fitB, h]
theorem fit_is {k : Int} {v : Vl} (h : v.k = k) : fitB k v = validL v := by simp [fitB, h]
theorem valid_is {x : Vl} {r : Bool} {w : World} (h : validL x = r) : Calls Try.prog 122 #[x.val] w fun e w' => e = .returned (.bool r) ∧ Below w.heap.size w w' := by rw [← h]; exact valid_any
set_option maxHeartbeats 1000000 in
theorem rowFits_any {u v : Value} {cs : List Cl} {r : Rw} {w : World} (hu : RowAt w u r) (hv : ColsAt w v cs) :
    Calls Try.prog 101 #[u, v] w fun e w' => e = .returned (.bool (rowB cs r)) ∧ Below w.heap.size w w' := by
  obtain ⟨p, cap, rfl, hcap, hmax, hx⟩ := hu
  obtain ⟨p', cap', rfl, hcap', hmax', hx'⟩ := hv
  unfold maxLen at hmax hmax'
  generalize hr : rowB cs r = res
  have HR := hid hr
  have HX := hid hx
  have HX' := hid hx'
  clear hr hx hx'
  generalize hn : r.length = n at *
  generalize hn' : cs.length = n' at *
  have HN := hid hn
  have HN' := hid hn'
  clear hn hn'
  by_cases he : n = n'
  · subst he
    go_enter Try.func101, Try.ntmps101
    go_wp2
    go_loopw [6, 14] (fun _ i wr => ∃ k : Nat, k ≤ n ∧ i = .int .i64 k ∧ Hid (Below w.heap.size w wr) ∧ Hid (∀ j, j < k → fitB cs[j]!.kd r[j]! = true)) (fun _ i _ => n - (intOf i).toNat)
    case atStart => exact ⟨0, by omega, rfl, Below.refl _ _, fun j h => absurd h (Nat.not_lt_zero _)⟩
    case round =>
      obtain ⟨k, hk, rfl, HB, HA⟩ := hrel
      by_cases hlt : k < n
      · have hkr : k < r.length := by rw [HN.out]; exact hlt
        have hkc : k < cs.length := by rw [HN'.out]; exact hlt
        obtain ⟨b, o, rfl, -, hj⟩ := HX.out (by intro e; subst e; simp at hkr)
        obtain ⟨b', o', rfl, -, hj'⟩ := HX'.out (by intro e; subst e; simp at hkc)
        obtain ⟨c0, c1, c2, c3, c4, c5, c6, c7, c8, c9, c10⟩ := val_cells ((hj k _ (get!_some hkr)).on HB.out)
        obtain ⟨-, d1⟩ := col_cells ((hj' k _ (get!_some hkc)).on HB.out)
        have hb0 := block_lt_of_cell c0
        have hb1 := block_lt_of_cell d1
        generalize hcc : cs[k]! = c at d1
        generalize hvv : r[k]! = x at c0 c1 c2 c3 c4 c5 c6 c7 c8 c9 c10
        have HCC := hid hcc
        have HVV := hid hvv
        clear hcc hvv hj hj'
        have hsz : w.heap.size ≤ wr.heap.size := HB.out.size
        by_cases hkd : x.k = c.kd
        · have hkd' := hkd
          have hne : (x.k != c.kd) = false := by simpa using hkd
          have HKD := hid hkd
          clear hkd hkd'
          cases hval : validL x with
          | true =>
            go_wp2_with fail
            have KW := hid (alloc_block wr (.cells (vc x) 39))
            have D1 := hid (Lib.cell?_alloc_some (.cells (vc x) 39) d1)
            have HE := hid (HB.out.alloc hsz (.cells (vc x) 39))
            clear c0 c1 c2 c3 c4 c5 c6 c7 c8 c9 c10 d1 hb0 hb1
            generalize (wr.alloc (.cells (vc x) 39)) = W at *
            generalize wr.heap.size = B at *
            have q0 : ∀ d os i, (grow (redrawn W d) os).cell? ⟨B, i, none⟩ = (vc x)[i]? := fun d os i => block_cell (block_on KW.out (below_regrown W d os)) i
            have q1 : ∀ d os, (grow (redrawn W d) os).cell? ⟨b', o' + k * 2 + 1, none⟩ = some (.int .i64 c.kd) := fun d os => cell_regrown D1.out d os
            refine wp_region_quiet_below (by kernel_rfl) (by kernel_rfl) ?_
            repeat (go_big_quiet_step (first | (go_at_call 122; exact Calls.regrown_of (valid_is hval))))
            refine wpQuiet_nil ?_
            intro _ hw'
            obtain ⟨⟨dq, osq⟩, hw''⟩ := hw'
            subst hw''
            go_wp2
            go_roundw
            case rel =>
              refine ⟨k + 1, by omega, by go_num, below_on HE.out (below_regrown W dq osq), fun j h => ?_⟩
              by_cases e : j = k
              · subst e; rw [HCC.out, HVV.out, fit_is HKD.out]; exact hval
              · exact HA.out j (by omega)
            case measure => simp [intOf]; omega
          | false =>
            go_wp2_with fail
            have KW := hid (alloc_block wr (.cells (vc x) 39))
            have D1 := hid (Lib.cell?_alloc_some (.cells (vc x) 39) d1)
            have HE := hid (HB.out.alloc hsz (.cells (vc x) 39))
            clear c0 c1 c2 c3 c4 c5 c6 c7 c8 c9 c10 d1 hb0 hb1
            generalize (wr.alloc (.cells (vc x) 39)) = W at *
            generalize wr.heap.size = B at *
            have q0 : ∀ d os i, (grow (redrawn W d) os).cell? ⟨B, i, none⟩ = (vc x)[i]? := fun d os i => block_cell (block_on KW.out (below_regrown W d os)) i
            have q1 : ∀ d os, (grow (redrawn W d) os).cell? ⟨b', o' + k * 2 + 1, none⟩ = some (.int .i64 c.kd) := fun d os => cell_regrown D1.out d os
            refine wp_region_quiet_below (by kernel_rfl) (by kernel_rfl) ?_
            repeat (go_big_quiet_step (first | (go_at_call 122; exact Calls.regrown_of (valid_is hval))))
            refine wpQuiet_nil ?_
            intro _ hw'
            obtain ⟨⟨dq, osq⟩, hw''⟩ := hw'
            subst hw''
            go_wp2
            go_ret
            exact ⟨ret_bool ((rowB_bad hkr (by rw [HCC.out, HVV.out, fit_is HKD.out]; exact hval)).symm.trans HR.out), below_on HE.out (below_regrown W dq osq)⟩
        · have hne : (x.k != c.kd) = true := by simpa using hkd
          have HKD := hid hkd
          clear hkd
          go_wp2_with fail
          have KW := hid (alloc_block wr (.cells (vc x) 39))
          have D1 := hid (Lib.cell?_alloc_some (.cells (vc x) 39) d1)
          have HE := hid (HB.out.alloc hsz (.cells (vc x) 39))
          clear c0 c1 c2 c3 c4 c5 c6 c7 c8 c9 c10 d1 hb0 hb1
          generalize (wr.alloc (.cells (vc x) 39)) = W at *
          generalize wr.heap.size = B at *
          have q0 : ∀ d os i, (grow (redrawn W d) os).cell? ⟨B, i, none⟩ = (vc x)[i]? := fun d os i => block_cell (block_on KW.out (below_regrown W d os)) i
          have q1 : ∀ d os, (grow (redrawn W d) os).cell? ⟨b', o' + k * 2 + 1, none⟩ = some (.int .i64 c.kd) := fun d os => cell_regrown D1.out d os
          refine wp_region_quiet_below (by kernel_rfl) (by kernel_rfl) ?_
          repeat (go_big_quiet_step (fail))
          refine wpQuiet_nil ?_
          intro _ hw'
          obtain ⟨⟨dq, osq⟩, hw''⟩ := hw'
          subst hw''
          go_wp2
          go_ret
          exact ⟨ret_bool ((rowB_bad hkr (by rw [HCC.out, HVV.out]; exact fit_no HKD.out)).symm.trans HR.out), below_on HE.out (below_regrown W dq osq)⟩
      · have hks : k = n := by omega
        subst hks
        go_wp2
        go_ret
        exact ⟨ret_bool ((rowB_yes (by rw [HN.out, HN'.out]) (by rw [HN.out]; exact HA.out)).symm.trans HR.out), HB.out⟩
  · have hne : ((n : Int) != (n' : Int)) = true := by simp; omega
    go_enter Try.func101, Try.ntmps101
    go_wp2
    go_ret
    exact ⟨ret_bool ((rowB_no (by rw [HN.out, HN'.out]; exact he)).symm.trans HR.out), Below.refl _ _⟩
end Go.Proofs.Ytcidijjbcebcbaa.TN
namespace Go.Proofs.Ytcidijjbcebcbaa.TN
open Go.RowKit Go.Sort Go.Shelf

theorem head_cell {w : World} {b o : Nat} {hs : List Value} (h : ∀ (j : Nat) x, hs[j]? = some x → CellsAt w b (o + j * 1) (one x)) {k : Nat} {x : Value} (hk : hs[k]? = some x) : w.cell? ⟨b, o + k, none⟩ = some x := by
  have := h k x hk 0 x rfl
  simpa using this
theorem check_cols {cs : List Cl} {rs : List Rw} (h : colsB cs = false) : checkV cs rs = 20 := by simp [checkV, h]
theorem check_bad {cs : List Cl} {rs : List Rw} (h : colsB cs = true) {k : Nat} (hk : k < rs.length) (hb : rowB cs rs[k]! = false) : checkV cs rs = 21 := by
  unfold checkV
  rw [if_pos h, if_neg]
  intro ha
  rw [List.all_eq_true] at ha
  have := ha rs[k]! (List.mem_of_getElem? (get!_some hk))
  rw [hb] at this; cases this
theorem check_ok {cs : List Cl} {rs : List Rw} (h : colsB cs = true) (ha : ∀ k, k < rs.length → rowB cs rs[k]! = true) : checkV cs rs = 0 := by
  unfold checkV
  rw [if_pos h, if_pos]
  rw [List.all_eq_true]
  intro r hr
  obtain ⟨i, hi⟩ := List.getElem?_of_mem hr
  have hl : i < rs.length := (List.getElem?_eq_some_iff.1 hi).1
  have := ha i hl
  have e := get!_some hl
  rw [hi] at e; injection e with e; rw [e]; exact this
theorem colsB_any {v : Value} {cs : List Cl} {r : Bool} {w : World} (hv : ColsAt w v cs) (h : colsB cs = r) :
    Calls Try.prog 100 #[v] w fun e w' => e = .returned (.bool r) ∧ Below w.heap.size w w' := by rw [← h]; exact cols_any hv
theorem rowB_any {u v : Value} {cs : List Cl} {r : Rw} {res : Bool} {w : World} (hu : RowAt w u r) (hv : ColsAt w v cs) (h : rowB cs r = res) :
    Calls Try.prog 101 #[u, v] w fun e w' => e = .returned (.bool res) ∧ Below w.heap.size w w' := by rw [← h]; exact rowFits_any hu hv
set_option maxHeartbeats 1000000 in
theorem check_any {v : Value} {cs : List Cl} {rs : List Rw} {w : World} (hv : TabAt w v cs rs) :
    Calls Try.prog 68 #[v] w fun e w' => e = .returned (.int .i64 (checkV cs rs)) ∧ Below w.heap.size w w' := by
  obtain ⟨c, rv, rfl, hc, hs, hrs, hh⟩ := hv
  obtain ⟨p, cap, rfl, hcap, hmax, hx⟩ := hrs
  unfold maxLen at hmax
  generalize hr : checkV cs rs = res
  have HR := hid hr
  have HX := hid hx
  have HC := hid hc
  have HH := hid hh
  clear hr hx hc hh
  generalize hn : hs.length = n at *
  have HN := hid hn
  clear hn
  have HE : Hid (Below w.heap.size w (w.alloc (.cells #[c, .slice p n cap] 28))) := (Below.refl _ _).alloc (Nat.le_refl _) _
  have KB := hid (alloc_block w (.cells #[c, .slice p n cap] 28))
  cases hb : colsB cs with
  | false =>
    go_enter Try.func68, Try.ntmps68
    go_wp2_with (first | (go_at_call 100; refine (colsB_any (HC.out.on HE.out) hb).mono ?_; rintro e w1 ⟨rfl, hb1⟩))
    go_ret
    exact ⟨ret_int ((check_cols hb).symm.trans HR.out), below_on HE.out hb1⟩
  | true =>
    go_enter Try.func68, Try.ntmps68
    go_wp2_with (first | (go_at_call 100; refine (colsB_any (HC.out.on HE.out) hb).mono ?_; rintro e w1 ⟨rfl, hb1⟩; have HB1 := hid (below_on HE.out hb1); have KB1 := hid (block_on KB.out hb1); have kb1 := block_cell KB1.out; clear hb1))
    clear kb1
    go_loopw [12] (fun i wr => ∃ k : Nat, k ≤ n ∧ i = .int .i64 k ∧ Hid (Below w.heap.size w wr) ∧ Hid (wr.heap[w.heap.size]? = some (.cells #[c, .slice p n cap] 28)) ∧ Hid (∀ j, j < k → rowB cs rs[j]! = true)) (fun i _ => n - (intOf i).toNat)
    case atStart => exact ⟨0, by omega, rfl, HB1.out, KB1.out, fun j h => absurd h (Nat.not_lt_zero _)⟩
    case round =>
      obtain ⟨k, hk, rfl, HB, HK, HA⟩ := hrel
      have kb := block_cell HK.out
      by_cases hlt : k < n
      · have hkh : k < hs.length := by rw [HN.out]; exact hlt
        have hkr : k < rs.length := by rw [← HH.out.1]; exact hkh
        obtain ⟨b, o, rfl, -, hj⟩ := HX.out (by intro e; subst e; simp at hkh)
        have hd := head_cell (fun j x hjx => (hj j x hjx).on HB.out) (get!_some hkh)
        have HRow := hid ((HH.out.2 k _ _ (get!_some hkh) (get!_some hkr)).on HB.out)
        generalize hs[k]! = hd0 at hd HRow
        clear hj
        cases hrb : rowB cs rs[k]! with
        | true =>
          go_wp2_with (first | (go_at_call 101; refine (rowB_any HRow.out (HC.out.on HB.out) hrb).mono ?_; rintro e w2 ⟨rfl, hb2⟩))
          go_roundw
          case rel =>
            refine ⟨k + 1, by omega, by go_num, below_on HB.out hb2, block_on HK.out hb2, fun j h => ?_⟩
            by_cases e : j = k
            · subst e; exact hrb
            · exact HA.out j (by omega)
          case measure => simp [intOf]; omega
        | false =>
          go_wp2_with (first | (go_at_call 101; refine (rowB_any HRow.out (HC.out.on HB.out) hrb).mono ?_; rintro e w2 ⟨rfl, hb2⟩))
          go_ret
          exact ⟨ret_int ((check_bad hb hkr hrb).symm.trans HR.out), below_on HB.out hb2⟩
      · have hks : k = n := by omega
        subst hks
        go_wp2
        go_ret
        exact ⟨ret_int ((check_ok hb (by rw [← HH.out.1, HN.out]; exact HA.out)).symm.trans HR.out), HB.out⟩
end Go.Proofs.Ytcidijjbcebcbaa.TN
namespace Go.Proofs.Ytcidijjbcebcbaa.TN
open Go.RowKit Go.Sort Go.Shelf

theorem cmpR_step {r q : Rw} {k : Nat} (h1 : k < r.length) (h2 : k < q.length) : cmpR (r.drop k) (q.drop k) = thn (cmpL r[k]! q[k]!) (cmpR (r.drop (k + 1)) (q.drop (k + 1))) := by
  have e1 : r[k]! = r[k] := by rw [List.getElem!_eq_getElem?_getD, List.getElem?_eq_getElem h1]; rfl
  have e2 : q[k]! = q[k] := by rw [List.getElem!_eq_getElem?_getD, List.getElem?_eq_getElem h2]; rfl
  rw [List.drop_eq_getElem_cons h1, List.drop_eq_getElem_cons h2, e1, e2]; rfl
theorem cmpR_longer {r q : Rw} {k : Nat} (h1 : k < r.length) (h2 : q.length ≤ k) : cmpR (r.drop k) (q.drop k) = 1 := by
  rw [List.drop_eq_getElem_cons h1, List.drop_eq_nil_of_le h2]; rfl
theorem cmpR_shorter {r q : Rw} {k : Nat} (h1 : r.length ≤ k) (h2 : k < q.length) : cmpR (r.drop k) (q.drop k) = -1 := by
  rw [List.drop_eq_getElem_cons h2, List.drop_eq_nil_of_le h1]; rfl
theorem cmpR_ends {r q : Rw} {k : Nat} (h1 : r.length ≤ k) (h2 : q.length ≤ k) : cmpR (r.drop k) (q.drop k) = 0 := by
  rw [List.drop_eq_nil_of_le h2, List.drop_eq_nil_of_le h1]; rfl
theorem compare_is {x y : Vl} {c : Int} {w : World} (h : cmpL x y = c) : Calls Try.prog 63 #[x.val, y.val] w fun e w' => e = .returned (.int .i64 c) ∧ Grew w w' := by rw [← h]; exact compare_any
set_option maxHeartbeats 1000000 in
theorem compFunc_any {u v : Value} {r q : Rw} {w : World} (hu : RowAt w u r) (hv : RowAt w v q) :
    Calls Try.prog 138 #[u, v, .func (.func 63) #[] #[]] w fun e w' => e = .returned (.int .i64 (cmpR r q)) ∧ Grew w w' := by
  obtain ⟨p, cap, rfl, hcap, hmax, hx⟩ := hu
  obtain ⟨p', cap', rfl, hcap', hmax', hx'⟩ := hv
  unfold maxLen at hmax hmax'
  have eg : ∀ args w, (callFunc 63 args).run Try.prog w = .ok (.enter 63 args) w := enters_of Try.func63 (by kernel_rfl) rfl
  generalize hr : cmpR r q = res
  have HR := hid hr
  have HX := hid hx
  have HX' := hid hx'
  clear hr hx hx'
  generalize hn : r.length = n at *
  generalize hn' : q.length = m at *
  have HN := hid hn
  have HN' := hid hn'
  clear hn hn'
  go_enter Try.func138, Try.ntmps138
  go_wp2
  go_loopw [13] (fun i wr => ∃ k : Nat, k ≤ n ∧ k ≤ m ∧ i = .int .i64 k ∧ Hid (Grew w wr) ∧ Hid (cmpR (r.drop k) (q.drop k) = res)) (fun i _ => n - (intOf i).toNat)
  case atStart => exact ⟨0, by omega, by omega, rfl, Grew.refl _, HR.out⟩
  case round =>
    obtain ⟨k, hk, hk', rfl, HG, HD⟩ := hrel
    by_cases hlt : k < n
    · have hkr : k < r.length := by rw [HN.out]; exact hlt
      obtain ⟨b, o, rfl, -, hj⟩ := HX.out (by intro e; subst e; simp at hkr)
      obtain ⟨c0, c1, c2, c3, c4, c5, c6, c7, c8, c9, c10⟩ := val_cells ((hj k _ (get!_some hkr)).on HG.out.below)
      have hb0 := block_lt_of_cell c0
      generalize hvv : r[k]! = x at c0 c1 c2 c3 c4 c5 c6 c7 c8 c9 c10
      have HVV := hid hvv
      clear hvv hj
      by_cases hlt' : k < m
      · have hkq : k < q.length := by rw [HN'.out]; exact hlt'
        obtain ⟨b', o', rfl, -, hj'⟩ := HX'.out (by intro e; subst e; simp at hkq)
        obtain ⟨d0, d1, d2, d3, d4, d5, d6, d7, d8, d9, d10⟩ := val_cells ((hj' k _ (get!_some hkq)).on HG.out.below)
        have hb0' := block_lt_of_cell d0
        generalize hvv : q[k]! = y at d0 d1 d2 d3 d4 d5 d6 d7 d8 d9 d10
        have HVV' := hid hvv
        clear hvv hj'
        have hnge : ¬ (m : Int) ≤ (k : Int) := by omega
        have HS := hid (cmpR_step hkr hkq)
        rw [HVV.out, HVV'.out] at HS
        by_cases hz : cmpL x y = 0
        · go_wp2_with (first | (go_at_fn 63; refine (compare_is hz).mono ?_; rintro e w2 ⟨rfl, hg2⟩))
          go_roundw
          case rel =>
            refine ⟨k + 1, by omega, by omega, by go_num, ((HG.out.alloc _).alloc _).trans hg2, ?_⟩
            have := HS.out
            rw [HD.out, thn_zero (by simp [hz])] at this
            exact this.symm
          case measure => simp [intOf]; omega
        · generalize hcv : cmpL x y = cv at *
          have hcz : (cv != 0) = true := by simpa using hz
          have HZ := hid hz
          have HCV := hid hcv
          clear hz hcv
          go_wp2_with (first | (go_at_fn 63; refine (compare_is HCV.out).mono ?_; rintro e w2 ⟨rfl, hg2⟩))
          go_ret
          refine ⟨ret_int ?_, ((HG.out.alloc _).alloc _).trans hg2⟩
          have := HS.out
          rw [HD.out, thn_ne hcz] at this
          exact this.symm
      · have hge : (m : Int) ≤ (k : Int) := by omega
        go_wp2
        go_ret
        exact ⟨ret_int ((cmpR_longer hkr (by rw [HN'.out]; omega)).symm.trans HD.out), HG.out.alloc _⟩
    · have hks : k = n := by omega
      subst hks
      by_cases hlt' : k < m
      · go_wp2
        go_ret
        exact ⟨ret_int ((cmpR_shorter (by rw [HN.out]; omega) (by rw [HN'.out]; omega)).symm.trans HD.out), HG.out⟩
      · have hkm : k = m := by omega
        subst hkm
        go_wp2
        go_ret
        exact ⟨ret_int ((cmpR_ends (by rw [HN.out]; omega) (by rw [HN'.out]; omega)).symm.trans HD.out), HG.out⟩
theorem compareRows_any {u v : Value} {r q : Rw} {w : World} (hu : RowAt w u r) (hv : RowAt w v q) :
    Calls Try.prog 116 #[u, v] w fun e w' => e = .returned (.int .i64 (cmpR r q)) ∧ Grew w w' := by
  have HC := hid (compFunc_any hu hv)
  clear hu hv
  generalize cmpR r q = res at *
  go_enter Try.func116, Try.ntmps116
  go_wp2_with (go_at_call 138; refine HC.out.mono ?_; rintro e w2 ⟨rfl, hg2⟩)
  go_ret
  exact ⟨rfl, hg2⟩
end Go.Proofs.Ytcidijjbcebcbaa.TN
namespace Go.Proofs.Ytcidijjbcebcbaa.TN
open Go.RowKit Go.Sort Go.Shelf

def nilS : Value := .slice none 0 0
theorem made_one (z : Value) (n : Nat) : madeCells #[z] n = (List.replicate n z).toArray := by
  unfold madeCells
  apply Array.ext
  · simp
  · intro i h1 h2; simp [Nat.mod_one]
theorem make_rows (n : Nat) (hn : n * 24 ≤ 140737488355328) (W : World) : (Instr.makeSlice 26 (.int .i64 (n : Int)) (.int .i64 (n : Int))).run Try.prog W = .ok (.slice (some ⟨W.heap.size, 0, none⟩) n n) (W.alloc (.cells (List.replicate n nilS).toArray 33)) := by
  obtain ⟨i, hi, h0, h1, h2⟩ := info_parts info35
  have h := run_make W 26 33 i _ Try.underlying26 hi h0 .i64 .i64 (n : Int) (n : Int) (by omega) (Int.le_refl _) (by rw [h2]; omega) (by omega)
  rw [h, h1, Int.toNat_natCast, Nat.mul_one]
  show Result.ok _ (W.alloc (.cells (madeCells #[.slice none 0 0] n) 33)) = _
  rw [made_one]; rfl
/- The rows made so far, behind them what make leaves. -/
def part (hs : List Value) (n : Nat) : Array Value := (hs ++ List.replicate (n - hs.length) nilS).toArray
theorem part_set {hs : List Value} {n : Nat} (h : hs.length < n) (v : Value) : (part hs n).setIfInBounds hs.length v = part (hs ++ [v]) n := by
  obtain ⟨m, hm⟩ : ∃ m, n - hs.length = m + 1 := ⟨n - hs.length - 1, by omega⟩
  unfold part
  rw [hm, show n - (hs ++ [v]).length = m from by simp; omega, List.replicate_succ]
  apply Array.ext'
  simp
theorem part_all {hs : List Value} {n : Nat} (h : hs.length = n) : part hs n = hs.toArray := by
  unfold part; rw [h, Nat.sub_self]; simp
theorem heads_snoc {Q : Nat → Prop} {w : World} {hs : List Value} {ds : List Rw} {h : Value} {r : Rw} (hh : HeadsIn Q w hs ds) (hr : RowIn Q w h r) : HeadsIn Q w (hs ++ [h]) (ds ++ [r]) := by
  refine ⟨by simp [hh.1], fun j x y hx hy => ?_⟩
  by_cases hj : j < hs.length
  · rw [List.getElem?_append_left hj] at hx
    rw [List.getElem?_append_left (by rw [← hh.1]; exact hj)] at hy
    exact hh.2 j x y hx hy
  · rw [List.getElem?_append_right (by omega)] at hx
    rw [List.getElem?_append_right (by rw [← hh.1]; omega), ← hh.1] at hy
    cases hd : j - hs.length with
    | zero => rw [hd] at hx hy; simp at hx hy; subst hx hy; exact hr
    | succ m => rw [hd] at hx; simp at hx
/- A store into block R leaves slices in other blocks. -/
theorem SlAt.set {α : Type} {Q : Nat → Prop} {enc : α → List Value} {k : Nat} {w : World} {v : Value} {xs : List α} {R i : Nat} {u : Value} (hq : ∀ b, Q b → b ≠ R) (h : SlAt Q enc k w v xs) : SlAt Q enc k (w.setCell ⟨R, i, none⟩ u) v xs := by
  obtain ⟨p, cap, hv, hc, hm, hx⟩ := h
  exact ⟨p, cap, hv, hc, hm, fun hne => let ⟨b, o, hp, hQ, hj⟩ := hx hne; ⟨b, o, hp, hQ, fun j x hjx i' u' hu => (World.cell?_setCell_far _ _ _ _ (fun e => hq b hQ.1 e.symm)).trans (hj j x hjx i' u' hu)⟩⟩
theorem HeadsIn.set {Q : Nat → Prop} {w : World} {hs : List Value} {rs : List Rw} {R i : Nat} {u : Value} (hq : ∀ b, Q b → b ≠ R) (h : HeadsIn Q w hs rs) : HeadsIn Q (w.setCell ⟨R, i, none⟩ u) hs rs := ⟨h.1, fun j x r h1 h2 => SlAt.set hq (h.2 j x r h1 h2)⟩
theorem TabIn.set {Q : Nat → Prop} {w : World} {v : Value} {cs : List Cl} {rs : List Rw} {R i : Nat} {u : Value} (hq : ∀ b, Q b → b ≠ R) (h : TabIn Q w v cs rs) : TabIn Q (w.setCell ⟨R, i, none⟩ u) v cs rs := let ⟨c, r, h0, h1, hs, h2, h3⟩ := h; ⟨c, r, h0, h1.set hq, hs, h2.set hq, h3.set hq⟩
theorem SlAt.lt {α : Type} {Q : Nat → Prop} {enc : α → List Value} {k : Nat} {w : World} {v : Value} {xs : List α} (hk : ∀ x, (enc x).length = k) (hp : 0 < k) (h : SlAt Q enc k w v xs) : SlAt (fun b => Q b ∧ b < w.heap.size) enc k w v xs := by
  obtain ⟨p, cap, hv, hc, hm, hx⟩ := h
  refine ⟨p, cap, hv, hc, hm, fun hne => ?_⟩
  obtain ⟨b, o, hpp, hQ, hj⟩ := hx hne
  refine ⟨b, o, hpp, ⟨⟨hQ.1, ?_⟩, hQ.2⟩, hj⟩
  cases xs with
  | nil => exact absurd rfl hne
  | cons y ys =>
    have h0 := hj 0 y rfl
    have hy : (enc y)[0]? = some ((enc y)[0]'(by rw [hk]; exact hp)) := List.getElem?_eq_getElem _
    exact block_lt_of_cell (h0 0 _ hy)
theorem frozen_no {w : World} {b : Nat} {xs : Array Value} {t : TypeId} (h : w.heap[b]? = some (.cells xs t (0, 0))) (o : Nat) : w.frozen? ⟨b, o, none⟩ = false := by simp [World.frozen?, h]
theorem part_nil {hs : List Value} {n : Nat} (h : hs.length < n) : (part hs n)[hs.length]? = some nilS := by
  unfold part
  rw [List.getElem?_toArray, List.getElem?_append_right (Nat.le_refl _), Nat.sub_self, List.getElem?_replicate, if_pos (by omega)]
theorem take_map_snoc {rs : List Rw} {f : Rw → Rw} {k : Nat} (h : k < rs.length) : (rs.take (k + 1)).map f = (rs.take k).map f ++ [f rs[k]!] := by
  have e : rs[k]! = rs[k] := by rw [List.getElem!_eq_getElem?_getD, List.getElem?_eq_getElem h]; rfl
  rw [List.take_succ_eq_append_getElem h, List.map_append, e]; rfl
theorem below_set {B : Nat} {w w' : World} {R i : Nat} {u : Value} (h : Below B w w') (hR : B ≤ R) : Below B w (w'.setCell ⟨R, i, none⟩ u) := by
  refine ⟨h.os, h.tape, h.output, ?_, fun k hk => ?_⟩
  · exact Nat.le_trans h.size (by rw [World.size_setCell]; exact Nat.le_refl _)
  · rw [Deep.blk_setCell_other _ _ _ _ (by show k ≠ R; omega)]; exact h.block k hk
end Go.Proofs.Ytcidijjbcebcbaa.TN
namespace Go.Proofs.Ytcidijjbcebcbaa.TN
open Go.RowKit Go.Sort Go.Shelf

theorem neqV : NeqAt Try.prog 39 (fun x : Vl => .agg x.cells.toArray) eqL := by
  refine ⟨fun x y w => ?_, GuardAt.agg _ (by kernel_rfl)⟩
  have he := eql24 x.k x.n x.s x.h0 x.h1 x.h2 x.h3 x.h4 x.h5 x.h6 x.h7 y.k y.n y.s y.h0 y.h1 y.h2 y.h3 y.h4 y.h5 y.h6 y.h7 w
  show Sem.run Try.prog (binOp .neq 39 x.val y.val) w = _
  rw [show eqL x y = eqV x.k x.n x.s x.h0 x.h1 x.h2 x.h3 x.h4 x.h5 x.h6 x.h7 y.k y.n y.s y.h0 y.h1 y.h2 y.h3 y.h4 y.h5 y.h6 y.h7 from rfl]
  generalize eqV x.k x.n x.s x.h0 x.h1 x.h2 x.h3 x.h4 x.h5 x.h6 x.h7 y.k y.n y.s y.h0 y.h1 y.h2 y.h3 y.h4 y.h5 y.h6 y.h7 = r at he ⊢
  have he' : Sem.run Try.prog (Op.equalIn Op.maxDepth 39 x.val y.val) w = .ok r w := he
  simp [binOp, Op.equal, he']
theorem neqC : NeqAt Try.prog 61 (fun x : Cl => .agg x.cells.toArray) eqC := by
  refine ⟨fun x y w => ?_, GuardAt.agg _ (by kernel_rfl)⟩
  have u3 := Try.underlying3
  have a3 := Try.isAgg3
  have z3 := Try.sizeOf3
  have u9 := Try.underlying9
  have a9 := Try.isAgg9
  have z9 := Try.sizeOf9
  have hS : Try.prog.underlying 61 = some (.struct (Try.prog.fieldsOf 61)) := by kernel_rfl
  have hb := bytes_beq x.nm y.nm
  have he : (Op.equalIn 10000 61 (.agg #[.string x.nm, .int .i64 x.kd]) (.agg #[.string y.nm, .int .i64 y.kd])).run Try.prog w = .ok (eqC x y) w := by
    rw [show (10000 : Nat) = 9999 + 1 from rfl, run_equalIn_agg w 9999 61 _ _ hS Try.stoodInHeld61]
    simp only [Program.fieldsOf, Try.underlying61]
    go_simp
    unfold eqC
    by_cases h1 : x.nm = y.nm <;> by_cases h2 : x.kd = y.kd <;> simp [h1, h2]
  show Sem.run Try.prog (binOp .neq 61 (.agg #[.string x.nm, .int .i64 x.kd]) (.agg #[.string y.nm, .int .i64 y.kd])) w = _
  generalize eqC x y = r at he ⊢
  have he' : Sem.run Try.prog (Op.equalIn Op.maxDepth 61 (.agg #[.string x.nm, .int .i64 x.kd]) (.agg #[.string y.nm, .int .i64 y.kd])) w = .ok r w := he
  simp [binOp, Op.equal, he']
theorem allEq_iff {α : Type} [Inhabited α] [DecidableEq α] {eq : α → α → Bool} (heq : ∀ x y, eq x y = true ↔ x = y) : ∀ (xs ys : List α), Lib.allEq eq xs ys = decide (xs = ys)
  | [], [] => by simp [Lib.allEq]
  | [], _ :: _ => by simp [Lib.allEq]
  | _ :: _, [] => by simp [Lib.allEq]
  | x :: xs, y :: ys => by
    have := allEq_iff heq xs ys
    by_cases h : eq x y = true
    · have hxy := (heq x y).1 h
      subst hxy
      simp [Lib.allEq, h, this]
    · have hxy : ¬ x = y := fun e => h ((heq x y).2 e)
      simp [Lib.allEq, h, hxy]
theorem rows_ne {rs qs : List Rw} {k : Nat} (h : ¬ rs[k]! = qs[k]!) : ¬ rs = qs := fun e => h (by rw [e])
theorem rows_eq {rs qs : List Rw} (h1 : rs.length = qs.length) (h : ∀ k, k < rs.length → rs[k]! = qs[k]!) : rs = qs := by
  apply List.ext_getElem h1
  intro i hi hi'
  have := h i hi
  rw [List.getElem!_eq_getElem?_getD, List.getElem!_eq_getElem?_getD, List.getElem?_eq_getElem hi, List.getElem?_eq_getElem hi'] at this
  exact this
end Go.Proofs.Ytcidijjbcebcbaa.TN
