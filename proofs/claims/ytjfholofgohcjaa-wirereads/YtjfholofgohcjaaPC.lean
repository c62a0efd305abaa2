/-
  What table.Find and the reference's Find return, for all columns and every name.
  What table.Check returns, for every table.
  What table.Check returns, for every table.
-/
import Derived.Test.YtjfholofgohcjaaPB
import Derived.Test.YtjfholofgohcjaaQShelf
namespace Go.Proofs.Ytjfholofgohcjaa
open Go.RowKit Go.Sort Go.Shelf

instance : Inhabited Cl := ⟨⟨⟨#[]⟩, 0, by decide⟩⟩
def isNm (nm : ByteArray) (c : Cl) : Bool := decide (c.nm = nm)
def findC (cs : List Cl) (nm : ByteArray) : Int := Lib.idxBy (fun _ y => isNm nm y) cs default
theorem findC_hit {cs : List Cl} {nm : ByteArray} {k : Nat} (hk : k < cs.length) (h : isNm nm cs[k]! = true) (hne : ∀ j, j < k → isNm nm cs[j]! = false) : findC cs nm = k := by
  have := Lib.idxBy_hit (fun _ y => isNm nm y) cs cs.length k default hk (Nat.le_refl _) h hne
  rwa [List.take_length] at this
theorem findC_miss {cs : List Cl} {nm : ByteArray} (hne : ∀ j, j < cs.length → isNm nm cs[j]! = false) : findC cs nm = -1 := by
  have := Lib.idxBy_miss (fun _ y => isNm nm y) cs cs.length default hne
  rwa [List.take_length] at this
theorem get!_some {α : Type} [Inhabited α] {xs : List α} {j : Nat} (h : j < xs.length) : xs[j]? = some xs[j]! := by
  rw [List.getElem?_eq_getElem h, List.getElem!_eq_getElem?_getD, List.getElem?_eq_getElem h]; rfl

theorem isNm_bytes (nm : ByteArray) (c : Cl) : (c.nm.toList == nm.toList) = isNm nm c := bytes_beq _ _
set_option maxHeartbeats 400000 in
theorem findP (nm : ByteArray) (B : Nat) (w : World) (hB : w.cell? ⟨B, 0, none⟩ = some (.string nm)) :
    PredBelow Try.prog 96 #[.pointer (some ⟨B, 0, none⟩)] (fun x : Cl => .agg x.cells.toArray) (isNm nm) w := fun W x hb => by
  have hBl : B < w.heap.size := block_lt_of_cell hB
  have hc : W.cell? ⟨B, 0, none⟩ = some (.string nm) := (hb.cell (p := ⟨B, 0, none⟩) hBl).trans hB
  have hne : B ≠ W.heap.size := by have := hb.size; omega
  have hbl : B < W.heap.size := by have := hb.size; omega
  have hq := isNm_bytes nm x
  show Calls Try.prog 96 #[.agg #[.string x.nm, .int .i64 x.kd], .pointer (some ⟨B, 0, none⟩)] W _
  generalize isNm nm x = r at hq ⊢
  go_enter Try.func96, Try.ntmps96
  go_wp2
  go_ret
  exact ⟨rfl, hb.alloc hb.size _⟩
set_option maxHeartbeats 400000 in
theorem find_any {v : Value} {cs : List Cl} {nm : ByteArray} {w : World} (hv : ColsAt w v cs) :
    Calls Try.prog 48 #[v, .string nm] w fun e w' => e = .returned (.int .i64 (findC cs nm)) ∧ Below w.heap.size w w' := by
  obtain ⟨p, cap, rfl, hcap, hmax, hx⟩ := hv
  unfold maxLen at hmax
  generalize hr : findC cs nm = r
  have eg : ∀ args w, (callFunc 96 args).run Try.prog w = .ok (.enter 96 args) w := enters_of Try.func96 (by kernel_rfl) rfl
  have hcon : Calls Try.prog 95 #[.slice p cs.length cap, .func (.func 96) #[] #[.pointer (some ⟨w.heap.size, 0, none⟩)]] (w.alloc (.cells #[.string nm] 9)) fun e w' => e = .returned (.int .i64 r) ∧ Below (w.alloc (.cells #[.string nm] 9)).heap.size (w.alloc (.cells #[.string nm] 9)) w' := by
    rw [← hr]
    by_cases hn : cs = []
    · subst hn
      go_enter Try.func95, Try.ntmps95
      go_wp2
      refine wp_loop_rounds 1 ?_
      rw [rounds_succ]
      go_wp2
      go_ret
      exact ⟨rfl, Below.refl _ _⟩
    · obtain ⟨b, o, rfl, -, hj⟩ := hx hn
      have hb0 : b < w.heap.size := by
        have h0 : 0 < cs.length := List.length_pos_iff.2 hn
        exact block_lt_of_cell (hj 0 _ (get!_some h0) 0 _ rfl)
      have h := AnyQ.slices_IndexFunc Try.indexC 2 Try.isAgg32 Try.sizeOf32 Cl.cells (fun _ => rfl) (isNm nm) 96 #[.pointer (some ⟨w.heap.size, 0, none⟩)] eg b o cs.length cap cs (w.alloc (.cells #[.string nm] 9)) (findP nm w.heap.size _ (by simp)) (Nat.le_refl _) hmax (by simp; omega) (fun j hjl i u hu => Lib.cell?_alloc_some _ (hj j _ (get!_some hjl) i u hu))
      rw [List.take_length] at h
      exact h
  have HC := hid hcon
  clear hcon hx hr
  go_enter Try.func48, Try.ntmps48
  go_wp2_with (go_at_call 95; refine HC.out.mono ?_; rintro e w' ⟨rfl, hb'⟩)
  go_ret
  exact ⟨rfl, below_on ((Below.refl _ w).alloc (Nat.le_refl _) _) hb'⟩
set_option maxHeartbeats 400000 in
theorem rfind_any {v : Value} {cs : List Cl} {nm : ByteArray} {w : World} (hv : ColsAt w v cs) :
    Calls Try.prog 97 #[v, .string nm] w fun e w' => e = .returned (.int .i64 (findC cs nm)) ∧ Below w.heap.size w w' := by
  obtain ⟨p, cap, rfl, hcap, hmax, hx⟩ := hv
  unfold maxLen at hmax
  generalize hn : cs.length = n at *
  generalize hr : findC cs nm = r
  have HX := hid hx
  have HR := hid hr
  have HN := hid hn
  clear hx hr hn
  go_enter Try.func97, Try.ntmps97
  go_wp2
  go_loopw [5] (fun i wr => ∃ k : Nat, k ≤ n ∧ i = .int .i64 k ∧ Hid (Below w.heap.size w wr) ∧ Hid (∀ j, j < k → isNm nm cs[j]! = false)) (fun i _ => n - (intOf i).toNat)
  case atStart => exact ⟨0, by omega, rfl, Below.refl _ _, fun j h => absurd h (Nat.not_lt_zero _)⟩
  case round =>
    obtain ⟨k, hk, rfl, HB, HA⟩ := hrel
    by_cases hlt : k < n
    · have hkc : k < cs.length := by rw [HN.out]; exact hlt
      obtain ⟨b, o, rfl, -, hj⟩ := HX.out (by intro e; subst e; simp at hkc)
      have hc := (col_cells ((hj k _ (get!_some hkc)).on HB.out)).1
      have hq := isNm_bytes nm cs[k]!
      generalize hcc : cs[k]! = c at hc hq
      have HCC := hid hcc
      clear hcc hj
      cases hb : isNm nm c with
      | true =>
        rw [hb] at hq
        go_wp2
        go_ret
        exact ⟨ret_int ((findC_hit hkc (by rw [HCC.out]; exact hb) HA.out).symm.trans HR.out), HB.out⟩
      | false =>
        rw [hb] at hq
        go_wp2
        go_roundw
        case rel =>
          refine ⟨k + 1, by omega, by go_num, HB.out, fun j h => ?_⟩
          by_cases e : j = k
          · subst e; rw [HCC.out]; exact hb
          · exact HA.out j (by omega)
        case measure => simp [intOf]; omega
    · have hks : k = n := by omega
      subst hks
      go_wp2
      go_ret
      exact ⟨ret_int ((findC_miss (by rw [HN.out]; exact HA.out)).symm.trans HR.out), HB.out⟩
end Go.Proofs.Ytjfholofgohcjaa
namespace Go.Proofs.Ytjfholofgohcjaa
open Go.RowKit Go.Sort Go.Shelf

instance : Inhabited Vl := ⟨⟨0, 0, ⟨#[]⟩, 0, 0, 0, 0, 0, 0, 0, 0, by decide⟩⟩
def colOk (cs : List Cl) (i : Nat) (c : Cl) : Bool := nameB c.nm && (decide (findC cs c.nm = (i : Int)) && (decide (1 ≤ c.kd) && decide (c.kd ≤ 4)))
def colsB (cs : List Cl) : Bool := decide ((1 ≤ cs.length ∧ cs.length ≤ 16) ∧ ∀ j, j < cs.length → colOk cs j cs[j]! = true)
theorem colsB_no {cs : List Cl} (h : ¬ (1 ≤ cs.length ∧ cs.length ≤ 16)) : colsB cs = false := by simp only [colsB, decide_eq_false_iff_not]; exact fun h' => h h'.1
theorem colsB_bad {cs : List Cl} {j : Nat} (hj : j < cs.length) (h : colOk cs j cs[j]! = false) : colsB cs = false := by
  simp only [colsB, decide_eq_false_iff_not]; intro h'; rw [h'.2 j hj] at h; cases h
theorem colsB_yes {cs : List Cl} (h : 1 ≤ cs.length ∧ cs.length ≤ 16) (ha : ∀ j, j < cs.length → colOk cs j cs[j]! = true) : colsB cs = true := by
  simp only [colsB, decide_eq_true_eq]; exact ⟨h, ha⟩
def fitB (k : Int) (v : Vl) : Bool := decide (v.k = k) && validL v
def rowB (cs : List Cl) (r : Rw) : Bool := decide (r.length = cs.length ∧ ∀ j, j < r.length → fitB cs[j]!.kd r[j]! = true)
theorem rowB_no {cs : List Cl} {r : Rw} (h : ¬ r.length = cs.length) : rowB cs r = false := by simp only [rowB, decide_eq_false_iff_not]; exact fun h' => h h'.1
theorem rowB_bad {cs : List Cl} {r : Rw} {j : Nat} (hj : j < r.length) (h : fitB cs[j]!.kd r[j]! = false) : rowB cs r = false := by
  simp only [rowB, decide_eq_false_iff_not]; intro h'; rw [h'.2 j hj] at h; cases h
theorem rowB_yes {cs : List Cl} {r : Rw} (h : r.length = cs.length) (ha : ∀ j, j < r.length → fitB cs[j]!.kd r[j]! = true) : rowB cs r = true := by
  simp only [rowB, decide_eq_true_eq]; exact ⟨h, ha⟩
def checkV (cs : List Cl) (rs : List Rw) : Int := if colsB cs = true then (if rs.all (rowB cs) = true then 0 else 21) else 20

theorem colOk_name {cs : List Cl} {i : Nat} {c : Cl} (h : nameB c.nm = false) : colOk cs i c = false := by simp [colOk, h]
theorem colOk_find {cs : List Cl} {i : Nat} {c : Cl} (h : ¬ findC cs c.nm = (i : Int)) : colOk cs i c = false := by simp [colOk, h]
theorem colOk_kind {cs : List Cl} {i : Nat} {c : Cl} (h : ¬ (1 ≤ c.kd ∧ c.kd ≤ 4)) : colOk cs i c = false := by
  unfold colOk
  have : (decide (1 ≤ c.kd) && decide (c.kd ≤ 4)) = false := by rw [← Bool.decide_and]; simp only [decide_eq_false_iff_not]; exact h
  rw [this]; simp
theorem colOk_yes {cs : List Cl} {i : Nat} {c : Cl} (h1 : nameB c.nm = true) (h2 : findC cs c.nm = (i : Int)) (h3 : 1 ≤ c.kd) (h4 : c.kd ≤ 4) : colOk cs i c = true := by simp [colOk, h1, h2, h3, h4]
set_option maxHeartbeats 1000000 in
theorem cols_any {v : Value} {cs : List Cl} {w : World} (hv : ColsAt w v cs) :
    Calls Try.prog 91 #[v] w fun e w' => e = .returned (.bool (colsB cs)) ∧ Below w.heap.size w w' := by
  have hv0 := hv
  obtain ⟨p, cap, rfl, hcap, hmax, hx⟩ := hv
  unfold maxLen at hmax
  generalize hr : colsB cs = r
  have HR := hid hr
  clear hr
  by_cases h1 : cs.length < 1
  · have g1 : (cs.length : Int) < 1 := by omega
    clear hx hv0
    go_enter Try.func91, Try.ntmps91
    go_wp2
    go_ret
    exact ⟨ret_bool ((colsB_no (by omega)).symm.trans HR.out), Below.refl _ _⟩
  · have g1 : ¬ (cs.length : Int) < 1 := by omega
    by_cases h2 : 16 < cs.length
    · have g2 : (16 : Int) < (cs.length : Int) := by omega
      clear hx hv0
      go_enter Try.func91, Try.ntmps91
      go_wp2
      go_ret
      exact ⟨ret_bool ((colsB_no (by omega)).symm.trans HR.out), Below.refl _ _⟩
    · have g2 : ¬ (16 : Int) < (cs.length : Int) := by omega
      obtain ⟨b, o, rfl, -, hj⟩ := hx (by intro e; subst e; simp at h1)
      have HV := hid hv0
      have HJ := hid hj
      clear hx hv0 hj
      generalize hn : cs.length = n at *
      have HN := hid hn
      clear hn
      go_enter Try.func91, Try.ntmps91
      go_wp2
      go_loopw [4, 15] (fun _ i wr => ∃ k : Nat, k ≤ n ∧ i = .int .i64 k ∧ Hid (Below w.heap.size w wr) ∧ Hid (∀ j, j < k → colOk cs j cs[j]! = true)) (fun _ i _ => n - (intOf i).toNat)
      case atStart => exact ⟨0, by omega, rfl, Below.refl _ _, fun j h => absurd h (Nat.not_lt_zero _)⟩
      case round =>
        obtain ⟨k, hk, rfl, HB, HA⟩ := hrel
        by_cases hlt : k < n
        · have hkc : k < cs.length := by rw [HN.out]; exact hlt
          obtain ⟨hc0, hc1⟩ := col_cells ((HJ.out k _ (get!_some hkc)).on HB.out)
          generalize hcc : cs[k]! = c at hc0 hc1
          have HCC := hid hcc
          clear hcc
          have hsz : w.heap.size ≤ wr.heap.size := HB.out.size
          have HS := hid c.small
          have HE : Hid (Below w.heap.size w (wr.alloc (.cells #[.string c.nm, .int .i64 c.kd] 32))) := HB.out.alloc hsz _
          cases hb : nameB c.nm with
          | false =>
            go_wp2_with (first | (go_at_call 47; refine (name_any HS.out).mono ?_; rintro e w' ⟨rfl, rfl⟩; rw [hb]))
            go_ret
            exact ⟨ret_bool ((colsB_bad hkc (by rw [HCC.out]; exact colOk_name hb)).symm.trans HR.out), HE.out⟩
          | true =>
            generalize hf : findC cs c.nm = f
            have HF := hid hf
            clear hf
            by_cases hfk : f = (k : Int)
            · subst hfk
              by_cases h3 : c.kd < 1
              · go_wp2_with (first | (go_at_call 47; refine (name_any HS.out).mono ?_; rintro e w' ⟨rfl, rfl⟩; rw [hb]) | (go_at_call 48; refine (find_any (HV.out.on HE.out)).mono ?_; rintro e w' ⟨rfl, hbl⟩; rw [HF.out]; obtain ⟨hcc, hff⟩ := bcell hbl))
                go_ret
                exact ⟨ret_bool ((colsB_bad hkc (by rw [HCC.out]; exact colOk_kind (by omega))).symm.trans HR.out), below_on HE.out hbl⟩
              · by_cases h4 : 4 < c.kd
                · go_wp2_with (first | (go_at_call 47; refine (name_any HS.out).mono ?_; rintro e w' ⟨rfl, rfl⟩; rw [hb]) | (go_at_call 48; refine (find_any (HV.out.on HE.out)).mono ?_; rintro e w' ⟨rfl, hbl⟩; rw [HF.out]; obtain ⟨hcc, hff⟩ := bcell hbl))
                  go_ret
                  exact ⟨ret_bool ((colsB_bad hkc (by rw [HCC.out]; exact colOk_kind (by omega))).symm.trans HR.out), below_on HE.out hbl⟩
                · go_wp2_with (first | (go_at_call 47; refine (name_any HS.out).mono ?_; rintro e w' ⟨rfl, rfl⟩; rw [hb]) | (go_at_call 48; refine (find_any (HV.out.on HE.out)).mono ?_; rintro e w' ⟨rfl, hbl⟩; rw [HF.out]; obtain ⟨hcc, hff⟩ := bcell hbl))
                  go_roundw
                  case rel =>
                    refine ⟨k + 1, by omega, by go_num, below_on HE.out hbl, fun j h => ?_⟩
                    by_cases e : j = k
                    · subst e; rw [HCC.out]; exact colOk_yes hb HF.out (by omega) (by omega)
                    · exact HA.out j (by omega)
                  case measure => simp [intOf]; omega
            · have hne : (f != (k : Int)) = true := by simpa using hfk
              have HFK := hid hfk
              clear hfk
              go_wp2_with (first | (go_at_call 47; refine (name_any HS.out).mono ?_; rintro e w' ⟨rfl, rfl⟩; rw [hb]) | (go_at_call 48; refine (find_any (HV.out.on HE.out)).mono ?_; rintro e w' ⟨rfl, hbl⟩; rw [HF.out]; obtain ⟨hcc, hff⟩ := bcell hbl))
              go_ret
              exact ⟨ret_bool ((colsB_bad hkc (by rw [HCC.out]; exact colOk_find (by rw [HF.out]; exact HFK.out))).symm.trans HR.out), below_on HE.out hbl⟩
        · have hks : k = n := by omega
          subst hks
          go_wp2
          go_ret
          exact ⟨ret_bool ((colsB_yes (by rw [HN.out]; omega) (by rw [HN.out]; exact HA.out)).symm.trans HR.out), HB.out⟩

abbrev vc (x : Vl) : Array Value := #[.int .i64 x.k, .int .i64 x.n, .string x.s, .int .i64 x.h0, .int .i64 x.h1, .int .i64 x.h2, .int .i64 x.h3, .int .i64 x.h4, .int .i64 x.h5, .int .i64 x.h6, .int .i64 x.h7]
theorem fit_no {k : Int} {v : Vl} (h : ¬ v.k = k) : fitB k v = false := by simp [fitB, h]
theorem fit_is {k : Int} {v : Vl} (h : v.k = k) : fitB k v = validL v := by simp [fitB, h]
theorem valid_is {x : Vl} {r : Bool} {w : World} (h : validL x = r) : Calls Try.prog 60 #[x.val] w fun e w' => e = .returned (.bool r) ∧ Below w.heap.size w w' := by rw [← h]; exact valid_any
set_option maxHeartbeats 1000000 in
theorem rowFits_any {u v : Value} {cs : List Cl} {r : Rw} {w : World} (hu : RowAt w u r) (hv : ColsAt w v cs) :
    Calls Try.prog 92 #[u, v] w fun e w' => e = .returned (.bool (rowB cs r)) ∧ Below w.heap.size w w' := by
  obtain ⟨p, cap, rfl, hcap, hmax, hx⟩ := hu
  obtain ⟨p', cap', rfl, hcap', hmax', hx'⟩ := hv
  unfold maxLen at hmax hmax'
  generalize hr : rowB cs r = res
  have HR := hid hr
  have HX := hid hx
  have HX' := hid hx'
  clear hr hx hx'
  generalize hn : r.length = n at *
  generalize hn' : cs.length = n' at *
  have HN := hid hn
  have HN' := hid hn'
  clear hn hn'
  by_cases he : n = n'
  · subst he
    go_enter Try.func92, Try.ntmps92
    go_wp2
    go_loopw [6, 14] (fun _ i wr => ∃ k : Nat, k ≤ n ∧ i = .int .i64 k ∧ Hid (Below w.heap.size w wr) ∧ Hid (∀ j, j < k → fitB cs[j]!.kd r[j]! = true)) (fun _ i _ => n - (intOf i).toNat)
    case atStart => exact ⟨0, by omega, rfl, Below.refl _ _, fun j h => absurd h (Nat.not_lt_zero _)⟩
    case round =>
      obtain ⟨k, hk, rfl, HB, HA⟩ := hrel
      by_cases hlt : k < n
      · have hkr : k < r.length := by rw [HN.out]; exact hlt
        have hkc : k < cs.length := by rw [HN'.out]; exact hlt
        obtain ⟨b, o, rfl, -, hj⟩ := HX.out (by intro e; subst e; simp at hkr)
        obtain ⟨b', o', rfl, -, hj'⟩ := HX'.out (by intro e; subst e; simp at hkc)
        obtain ⟨c0, c1, c2, c3, c4, c5, c6, c7, c8, c9, c10⟩ := val_cells ((hj k _ (get!_some hkr)).on HB.out)
        obtain ⟨-, d1⟩ := col_cells ((hj' k _ (get!_some hkc)).on HB.out)
        have hb0 := block_lt_of_cell c0
        have hb1 := block_lt_of_cell d1
        generalize hcc : cs[k]! = c at d1
        generalize hvv : r[k]! = x at c0 c1 c2 c3 c4 c5 c6 c7 c8 c9 c10
        have HCC := hid hcc
        have HVV := hid hvv
        clear hcc hvv hj hj'
        have hsz : w.heap.size ≤ wr.heap.size := HB.out.size
        by_cases hkd : x.k = c.kd
        · have hkd' := hkd
          have hne : (x.k != c.kd) = false := by simpa using hkd
          have HKD := hid hkd
          clear hkd hkd'
          cases hval : validL x with
          | true =>
            go_wp2_with fail
            have KW := hid (alloc_block wr (.cells (vc x) 44))
            have D1 := hid (Lib.cell?_alloc_some (.cells (vc x) 44) d1)
            have HE := hid (HB.out.alloc hsz (.cells (vc x) 44))
            clear c0 c1 c2 c3 c4 c5 c6 c7 c8 c9 c10 d1 hb0 hb1
            generalize (wr.alloc (.cells (vc x) 44)) = W at *
            generalize wr.heap.size = B at *
            have q0 : ∀ d os i, (grow (redrawn W d) os).cell? ⟨B, i, none⟩ = (vc x)[i]? := fun d os i => block_cell (block_on KW.out (below_regrown W d os)) i
            have q1 : ∀ d os, (grow (redrawn W d) os).cell? ⟨b', o' + k * 2 + 1, none⟩ = some (.int .i64 c.kd) := fun d os => cell_regrown D1.out d os
            refine wp_region_quiet_below (by kernel_rfl) (by kernel_rfl) ?_
            repeat (go_big_quiet_step (first | (go_at_call 60; exact Calls.regrown_of (valid_is hval))))
            refine wpQuiet_nil ?_
            intro _ hw'
            obtain ⟨⟨dq, osq⟩, hw''⟩ := hw'
            subst hw''
            go_wp2
            go_roundw
            case rel =>
              refine ⟨k + 1, by omega, by go_num, below_on HE.out (below_regrown W dq osq), fun j h => ?_⟩
              by_cases e : j = k
              · subst e; rw [HCC.out, HVV.out, fit_is HKD.out]; exact hval
              · exact HA.out j (by omega)
            case measure => simp [intOf]; omega
          | false =>
            go_wp2_with fail
            have KW := hid (alloc_block wr (.cells (vc x) 44))
            have D1 := hid (Lib.cell?_alloc_some (.cells (vc x) 44) d1)
            have HE := hid (HB.out.alloc hsz (.cells (vc x) 44))
            clear c0 c1 c2 c3 c4 c5 c6 c7 c8 c9 c10 d1 hb0 hb1
            generalize (wr.alloc (.cells (vc x) 44)) = W at *
            generalize wr.heap.size = B at *
            have q0 : ∀ d os i, (grow (redrawn W d) os).cell? ⟨B, i, none⟩ = (vc x)[i]? := fun d os i => block_cell (block_on KW.out (below_regrown W d os)) i
            have q1 : ∀ d os, (grow (redrawn W d) os).cell? ⟨b', o' + k * 2 + 1, none⟩ = some (.int .i64 c.kd) := fun d os => cell_regrown D1.out d os
            refine wp_region_quiet_below (by kernel_rfl) (by kernel_rfl) ?_
            repeat (go_big_quiet_step (first | (go_at_call 60; exact Calls.regrown_of (valid_is hval))))
            refine wpQuiet_nil ?_
            intro _ hw'
            obtain ⟨⟨dq, osq⟩, hw''⟩ := hw'
            subst hw''
            go_wp2
            go_ret
            exact ⟨ret_bool ((rowB_bad hkr (by rw [HCC.out, HVV.out, fit_is HKD.out]; exact hval)).symm.trans HR.out), below_on HE.out (below_regrown W dq osq)⟩
        · have hne : (x.k != c.kd) = true := by simpa using hkd
          have HKD := hid hkd
          clear hkd
          go_wp2_with fail
          have KW := hid (alloc_block wr (.cells (vc x) 44))
          have D1 := hid (Lib.cell?_alloc_some (.cells (vc x) 44) d1)
          have HE := hid (HB.out.alloc hsz (.cells (vc x) 44))
          clear c0 c1 c2 c3 c4 c5 c6 c7 c8 c9 c10 d1 hb0 hb1
          generalize (wr.alloc (.cells (vc x) 44)) = W at *
          generalize wr.heap.size = B at *
          have q0 : ∀ d os i, (grow (redrawn W d) os).cell? ⟨B, i, none⟩ = (vc x)[i]? := fun d os i => block_cell (block_on KW.out (below_regrown W d os)) i
          have q1 : ∀ d os, (grow (redrawn W d) os).cell? ⟨b', o' + k * 2 + 1, none⟩ = some (.int .i64 c.kd) := fun d os => cell_regrown D1.out d os
          refine wp_region_quiet_below (by kernel_rfl) (by kernel_rfl) ?_
          repeat (go_big_quiet_step (fail))
          refine wpQuiet_nil ?_
          intro _ hw'
          obtain ⟨⟨dq, osq⟩, hw''⟩ := hw'
          subst hw''
          go_wp2
          go_ret
          exact ⟨ret_bool ((rowB_bad hkr (by rw [HCC.out, HVV.out]; exact fit_no HKD.out)).symm.trans HR.out), below_on HE.out (below_regrown W dq osq)⟩
      · have hks : k = n := by omega
        subst hks
        go_wp2
        go_ret
        exact ⟨ret_bool ((rowB_yes (by rw [HN.out, HN'.out]) (by rw [HN.out]; exact HA.out)).symm.trans HR.out), HB.out⟩
  · have hne : ((n : Int) != (n' : Int)) = true := by simp; omega
    go_enter Try.func92, Try.ntmps92
    go_wp2
    go_ret
    exact ⟨ret_bool ((rowB_no (by rw [HN.out, HN'.out]; exact he)).symm.trans HR.out), Below.refl _ _⟩
end Go.Proofs.Ytjfholofgohcjaa
namespace Go.Proofs.Ytjfholofgohcjaa
open Go.RowKit Go.Sort Go.Shelf

theorem head_cell {w : World} {b o : Nat} {hs : List Value} (h : ∀ (j : Nat) x, hs[j]? = some x → CellsAt w b (o + j * 1) (one x)) {k : Nat} {x : Value} (hk : hs[k]? = some x) : w.cell? ⟨b, o + k, none⟩ = some x := by
  have := h k x hk 0 x rfl
  simpa using this
theorem check_cols {cs : List Cl} {rs : List Rw} (h : colsB cs = false) : checkV cs rs = 20 := by simp [checkV, h]
theorem check_bad {cs : List Cl} {rs : List Rw} (h : colsB cs = true) {k : Nat} (hk : k < rs.length) (hb : rowB cs rs[k]! = false) : checkV cs rs = 21 := by
  unfold checkV
  rw [if_pos h, if_neg]
  intro ha
  rw [List.all_eq_true] at ha
  have := ha rs[k]! (List.mem_of_getElem? (get!_some hk))
  rw [hb] at this; cases this
theorem check_ok {cs : List Cl} {rs : List Rw} (h : colsB cs = true) (ha : ∀ k, k < rs.length → rowB cs rs[k]! = true) : checkV cs rs = 0 := by
  unfold checkV
  rw [if_pos h, if_pos]
  rw [List.all_eq_true]
  intro r hr
  obtain ⟨i, hi⟩ := List.getElem?_of_mem hr
  have hl : i < rs.length := (List.getElem?_eq_some_iff.1 hi).1
  have := ha i hl
  have e := get!_some hl
  rw [hi] at e; injection e with e; rw [e]; exact this
theorem colsB_any {v : Value} {cs : List Cl} {r : Bool} {w : World} (hv : ColsAt w v cs) (h : colsB cs = r) :
    Calls Try.prog 91 #[v] w fun e w' => e = .returned (.bool r) ∧ Below w.heap.size w w' := by rw [← h]; exact cols_any hv
theorem rowB_any {u v : Value} {cs : List Cl} {r : Rw} {res : Bool} {w : World} (hu : RowAt w u r) (hv : ColsAt w v cs) (h : rowB cs r = res) :
    Calls Try.prog 92 #[u, v] w fun e w' => e = .returned (.bool res) ∧ Below w.heap.size w w' := by rw [← h]; exact rowFits_any hu hv
set_option maxHeartbeats 1000000 in
theorem check_any {v : Value} {cs : List Cl} {rs : List Rw} {w : World} (hv : TabAt w v cs rs) :
    Calls Try.prog 46 #[v] w fun e w' => e = .returned (.int .i64 (checkV cs rs)) ∧ Below w.heap.size w w' := by
  obtain ⟨c, rv, rfl, hc, hs, hrs, hh⟩ := hv
  obtain ⟨p, cap, rfl, hcap, hmax, hx⟩ := hrs
  unfold maxLen at hmax
  generalize hr : checkV cs rs = res
  have HR := hid hr
  have HX := hid hx
  have HC := hid hc
  have HH := hid hh
  clear hr hx hc hh
  generalize hn : hs.length = n at *
  have HN := hid hn
  clear hn
  have HE : Hid (Below w.heap.size w (w.alloc (.cells #[c, .slice p n cap] 25))) := (Below.refl _ _).alloc (Nat.le_refl _) _
  have KB := hid (alloc_block w (.cells #[c, .slice p n cap] 25))
  cases hb : colsB cs with
  | false =>
    go_enter Try.func46, Try.ntmps46
    go_wp2_with (first | (go_at_call 91; refine (colsB_any (HC.out.on HE.out) hb).mono ?_; rintro e w1 ⟨rfl, hb1⟩))
    go_ret
    exact ⟨ret_int ((check_cols hb).symm.trans HR.out), below_on HE.out hb1⟩
  | true =>
    go_enter Try.func46, Try.ntmps46
    go_wp2_with (first | (go_at_call 91; refine (colsB_any (HC.out.on HE.out) hb).mono ?_; rintro e w1 ⟨rfl, hb1⟩; have HB1 := hid (below_on HE.out hb1); have KB1 := hid (block_on KB.out hb1); have kb1 := block_cell KB1.out; clear hb1))
    clear kb1
    go_loopw [12] (fun i wr => ∃ k : Nat, k ≤ n ∧ i = .int .i64 k ∧ Hid (Below w.heap.size w wr) ∧ Hid (wr.heap[w.heap.size]? = some (.cells #[c, .slice p n cap] 25)) ∧ Hid (∀ j, j < k → rowB cs rs[j]! = true)) (fun i _ => n - (intOf i).toNat)
    case atStart => exact ⟨0, by omega, rfl, HB1.out, KB1.out, fun j h => absurd h (Nat.not_lt_zero _)⟩
    case round =>
      obtain ⟨k, hk, rfl, HB, HK, HA⟩ := hrel
      have kb := block_cell HK.out
      by_cases hlt : k < n
      · have hkh : k < hs.length := by rw [HN.out]; exact hlt
        have hkr : k < rs.length := by rw [← HH.out.1]; exact hkh
        obtain ⟨b, o, rfl, -, hj⟩ := HX.out (by intro e; subst e; simp at hkh)
        have hd := head_cell (fun j x hjx => (hj j x hjx).on HB.out) (get!_some hkh)
        have HRow := hid ((HH.out.2 k _ _ (get!_some hkh) (get!_some hkr)).on HB.out)
        generalize hs[k]! = hd0 at hd HRow
        clear hj
        cases hrb : rowB cs rs[k]! with
        | true =>
          go_wp2_with (first | (go_at_call 92; refine (rowB_any HRow.out (HC.out.on HB.out) hrb).mono ?_; rintro e w2 ⟨rfl, hb2⟩))
          go_roundw
          case rel =>
            refine ⟨k + 1, by omega, by go_num, below_on HB.out hb2, block_on HK.out hb2, fun j h => ?_⟩
            by_cases e : j = k
            · subst e; exact hrb
            · exact HA.out j (by omega)
          case measure => simp [intOf]; omega
        | false =>
          go_wp2_with (first | (go_at_call 92; refine (rowB_any HRow.out (HC.out.on HB.out) hrb).mono ?_; rintro e w2 ⟨rfl, hb2⟩))
          go_ret
          exact ⟨ret_int ((check_bad hb hkr hrb).symm.trans HR.out), below_on HB.out hb2⟩
      · have hks : k = n := by omega
        subst hks
        go_wp2
        go_ret
        exact ⟨ret_int ((check_ok hb (by rw [← HH.out.1, HN.out]; exact HA.out)).symm.trans HR.out), HB.out⟩
end Go.Proofs.Ytjfholofgohcjaa
