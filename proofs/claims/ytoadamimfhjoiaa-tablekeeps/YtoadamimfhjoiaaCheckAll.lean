/-
  What table.Check returns, for every table.
-/
import Derived.Test.YtoadamimfhjoiaaCheck
namespace Go.Proofs.Ytoadamimfhjoiaa
open Go.RowKit Go.Sort Go.Shelf

theorem head_cell {w : World} {b o : Nat} {hs : List Value} (h : ∀ (j : Nat) x, hs[j]? = some x → CellsAt w b (o + j * 1) (one x)) {k : Nat} {x : Value} (hk : hs[k]? = some x) : w.cell? ⟨b, o + k, none⟩ = some x := by
  have := h k x hk 0 x rfl
  simpa using this
theorem check_cols {cs : List Cl} {rs : List Rw} (h : colsB cs = false) : checkV cs rs = 20 := by simp [checkV, h]
theorem check_bad {cs : List Cl} {rs : List Rw} (h : colsB cs = true) {k : Nat} (hk : k < rs.length) (hb : rowB cs rs[k]! = false) : checkV cs rs = 21 := by
  unfold checkV
  rw [if_pos h, if_neg]
  intro ha
  rw [List.all_eq_true] at ha
  have := ha rs[k]! (List.mem_of_getElem? (get!_some hk))
  rw [hb] at this; cases this
theorem check_ok {cs : List Cl} {rs : List Rw} (h : colsB cs = true) (ha : ∀ k, k < rs.length → rowB cs rs[k]! = true) : checkV cs rs = 0 := by
  unfold checkV
  rw [if_pos h, if_pos]
  rw [List.all_eq_true]
  intro r hr
  obtain ⟨i, hi⟩ := List.getElem?_of_mem hr
  have hl : i < rs.length := (List.getElem?_eq_some_iff.1 hi).1
  have := ha i hl
  have e := get!_some hl
  rw [hi] at e; injection e with e; rw [e]; exact this
theorem colsB_any {v : Value} {cs : List Cl} {r : Bool} {w : World} (hv : ColsAt w v cs) (h : colsB cs = r) :
    Calls Try.prog 27 #[v] w fun e w' => e = .returned (.bool r) ∧ Below w.heap.size w w' := by rw [← h]; exact cols_any hv
theorem rowB_any {u v : Value} {cs : List Cl} {r : Rw} {res : Bool} {w : World} (hu : RowAt w u r) (hv : ColsAt w v cs) (h : rowB cs r = res) :
    Calls Try.prog 28 #[u, v] w fun e w' => e = .returned (.bool res) ∧ Below w.heap.size w w' := by rw [← h]; exact rowFits_any hu hv
set_option maxHeartbeats 1000000 in
theorem check_any {v : Value} {cs : List Cl} {rs : List Rw} {w : World} (hv : TabAt w v cs rs) :
    Calls Try.prog 11 #[v] w fun e w' => e = .returned (.int .i64 (checkV cs rs)) ∧ Below w.heap.size w w' := by
  obtain ⟨c, rv, rfl, hc, hs, hrs, hh⟩ := hv
  obtain ⟨p, cap, rfl, hcap, hmax, hx⟩ := hrs
  unfold maxLen at hmax
  generalize hr : checkV cs rs = res
  have HR := hid hr
  have HX := hid hx
  have HC := hid hc
  have HH := hid hh
  clear hr hx hc hh
  generalize hn : hs.length = n at *
  have HN := hid hn
  clear hn
  have HE : Hid (Below w.heap.size w (w.alloc (.cells #[c, .slice p n cap] 25))) := (Below.refl _ _).alloc (Nat.le_refl _) _
  have KB := hid (alloc_block w (.cells #[c, .slice p n cap] 25))
  cases hb : colsB cs with
  | false =>
    go_enter Try.func11, Try.ntmps11
    go_wp2_with (first | (go_at_call 27; refine (colsB_any (HC.out.on HE.out) hb).mono ?_; rintro e w1 ⟨rfl, hb1⟩))
    go_ret
    exact ⟨ret_int ((check_cols hb).symm.trans HR.out), below_on HE.out hb1⟩
  | true =>
    go_enter Try.func11, Try.ntmps11
    go_wp2_with (first | (go_at_call 27; refine (colsB_any (HC.out.on HE.out) hb).mono ?_; rintro e w1 ⟨rfl, hb1⟩; have HB1 := hid (below_on HE.out hb1); have KB1 := hid (block_on KB.out hb1); have kb1 := block_cell KB1.out; clear hb1))
    clear kb1
    go_loopw [12] (fun i wr => ∃ k : Nat, k ≤ n ∧ i = .int .i64 k ∧ Hid (Below w.heap.size w wr) ∧ Hid (wr.heap[w.heap.size]? = some (.cells #[c, .slice p n cap] 25)) ∧ Hid (∀ j, j < k → rowB cs rs[j]! = true)) (fun i _ => n - (intOf i).toNat)
    case atStart => exact ⟨0, by omega, rfl, HB1.out, KB1.out, fun j h => absurd h (Nat.not_lt_zero _)⟩
    case round =>
      obtain ⟨k, hk, rfl, HB, HK, HA⟩ := hrel
      have kb := block_cell HK.out
      by_cases hlt : k < n
      · have hkh : k < hs.length := by rw [HN.out]; exact hlt
        have hkr : k < rs.length := by rw [← HH.out.1]; exact hkh
        obtain ⟨b, o, rfl, -, hj⟩ := HX.out (by intro e; subst e; simp at hkh)
        have hd := head_cell (fun j x hjx => (hj j x hjx).on HB.out) (get!_some hkh)
        have HRow := hid ((HH.out.2 k _ _ (get!_some hkh) (get!_some hkr)).on HB.out)
        generalize hs[k]! = hd0 at hd HRow
        clear hj
        cases hrb : rowB cs rs[k]! with
        | true =>
          go_wp2_with (first | (go_at_call 28; refine (rowB_any HRow.out (HC.out.on HB.out) hrb).mono ?_; rintro e w2 ⟨rfl, hb2⟩))
          go_roundw
          case rel =>
            refine ⟨k + 1, by omega, by go_num, below_on HB.out hb2, block_on HK.out hb2, fun j h => ?_⟩
            by_cases e : j = k
            · subst e; exact hrb
            · exact HA.out j (by omega)
          case measure => simp [intOf]; omega
        | false =>
          go_wp2_with (first | (go_at_call 28; refine (rowB_any HRow.out (HC.out.on HB.out) hrb).mono ?_; rintro e w2 ⟨rfl, hb2⟩))
          go_ret
          exact ⟨ret_int ((check_bad hb hkr hrb).symm.trans HR.out), below_on HB.out hb2⟩
      · have hks : k = n := by omega
        subst hks
        go_wp2
        go_ret
        exact ⟨ret_int ((check_ok hb (by rw [← HH.out.1, HN.out]; exact HA.out)).symm.trans HR.out), HB.out⟩
end Go.Proofs.Ytoadamimfhjoiaa
