/-
  What table.Find and the reference's Find return, for all columns and every name.
-/
import Derived.Test.YtoadamimfhjoiaaName
import Derived.Test.YtoadamimfhjoiaaShelf
namespace Go.Proofs.Ytoadamimfhjoiaa
open Go.RowKit Go.Sort Go.Shelf

instance : Inhabited Cl := ⟨⟨⟨#[]⟩, 0, by decide⟩⟩
def isNm (nm : ByteArray) (c : Cl) : Bool := decide (c.nm = nm)
def findC (cs : List Cl) (nm : ByteArray) : Int := Lib.idxBy (fun _ y => isNm nm y) cs default
theorem findC_hit {cs : List Cl} {nm : ByteArray} {k : Nat} (hk : k < cs.length) (h : isNm nm cs[k]! = true) (hne : ∀ j, j < k → isNm nm cs[j]! = false) : findC cs nm = k := by
  have := Lib.idxBy_hit (fun _ y => isNm nm y) cs cs.length k default hk (Nat.le_refl _) h hne
  rwa [List.take_length] at this
theorem findC_miss {cs : List Cl} {nm : ByteArray} (hne : ∀ j, j < cs.length → isNm nm cs[j]! = false) : findC cs nm = -1 := by
  have := Lib.idxBy_miss (fun _ y => isNm nm y) cs cs.length default hne
  rwa [List.take_length] at this
theorem get!_some {α : Type} [Inhabited α] {xs : List α} {j : Nat} (h : j < xs.length) : xs[j]? = some xs[j]! := by
  rw [List.getElem?_eq_getElem h, List.getElem!_eq_getElem?_getD, List.getElem?_eq_getElem h]; rfl

theorem isNm_bytes (nm : ByteArray) (c : Cl) : (c.nm.toList == nm.toList) = isNm nm c := bytes_beq _ _
set_option maxHeartbeats 400000 in
theorem findP (nm : ByteArray) (B : Nat) (w : World) (hB : w.cell? ⟨B, 0, none⟩ = some (.string nm)) :
    PredBelow Try.prog 34 #[.pointer (some ⟨B, 0, none⟩)] (fun x : Cl => .agg x.cells.toArray) (isNm nm) w := fun W x hb => by
  have hBl : B < w.heap.size := block_lt_of_cell hB
  have hc : W.cell? ⟨B, 0, none⟩ = some (.string nm) := (hb.cell (p := ⟨B, 0, none⟩) hBl).trans hB
  have hne : B ≠ W.heap.size := by have := hb.size; omega
  have hbl : B < W.heap.size := by have := hb.size; omega
  have hq := isNm_bytes nm x
  show Calls Try.prog 34 #[.agg #[.string x.nm, .int .i64 x.kd], .pointer (some ⟨B, 0, none⟩)] W _
  generalize isNm nm x = r at hq ⊢
  go_enter Try.func34, Try.ntmps34
  go_wp2
  go_ret
  exact ⟨rfl, hb.alloc hb.size _⟩
set_option maxHeartbeats 400000 in
theorem find_any {v : Value} {cs : List Cl} {nm : ByteArray} {w : World} (hv : ColsAt w v cs) :
    Calls Try.prog 15 #[v, .string nm] w fun e w' => e = .returned (.int .i64 (findC cs nm)) ∧ Below w.heap.size w w' := by
  obtain ⟨p, cap, rfl, hcap, hmax, hx⟩ := hv
  unfold maxLen at hmax
  generalize hr : findC cs nm = r
  have eg : ∀ args w, (callFunc 34 args).run Try.prog w = .ok (.enter 34 args) w := enters_of Try.func34 (by kernel_rfl) rfl
  have hcon : Calls Try.prog 33 #[.slice p cs.length cap, .func (.func 34) #[] #[.pointer (some ⟨w.heap.size, 0, none⟩)]] (w.alloc (.cells #[.string nm] 9)) fun e w' => e = .returned (.int .i64 r) ∧ Below (w.alloc (.cells #[.string nm] 9)).heap.size (w.alloc (.cells #[.string nm] 9)) w' := by
    rw [← hr]
    by_cases hn : cs = []
    · subst hn
      go_enter Try.func33, Try.ntmps33
      go_wp2
      refine wp_loop_rounds 1 ?_
      rw [rounds_succ]
      go_wp2
      go_ret
      exact ⟨rfl, Below.refl _ _⟩
    · obtain ⟨b, o, rfl, -, hj⟩ := hx hn
      have hb0 : b < w.heap.size := by
        have h0 : 0 < cs.length := List.length_pos_iff.2 hn
        exact block_lt_of_cell (hj 0 _ (get!_some h0) 0 _ rfl)
      have h := AnyQ.slices_IndexFunc Try.indexC 2 Try.isAgg45 Try.sizeOf45 Cl.cells (fun _ => rfl) (isNm nm) 34 #[.pointer (some ⟨w.heap.size, 0, none⟩)] eg b o cs.length cap cs (w.alloc (.cells #[.string nm] 9)) (findP nm w.heap.size _ (by simp)) (Nat.le_refl _) hmax (by simp; omega) (fun j hjl i u hu => Lib.cell?_alloc_some _ (hj j _ (get!_some hjl) i u hu))
      rw [List.take_length] at h
      exact h
  have HC := hid hcon
  clear hcon hx hr
  go_enter Try.func15, Try.ntmps15
  go_wp2_with (go_at_call 33; refine HC.out.mono ?_; rintro e w' ⟨rfl, hb'⟩)
  go_ret
  exact ⟨rfl, below_on ((Below.refl _ w).alloc (Nat.le_refl _) _) hb'⟩
set_option maxHeartbeats 400000 in
theorem rfind_any {v : Value} {cs : List Cl} {nm : ByteArray} {w : World} (hv : ColsAt w v cs) :
    Calls Try.prog 16 #[v, .string nm] w fun e w' => e = .returned (.int .i64 (findC cs nm)) ∧ Below w.heap.size w w' := by
  obtain ⟨p, cap, rfl, hcap, hmax, hx⟩ := hv
  unfold maxLen at hmax
  generalize hn : cs.length = n at *
  generalize hr : findC cs nm = r
  have HX := hid hx
  have HR := hid hr
  have HN := hid hn
  clear hx hr hn
  go_enter Try.func16, Try.ntmps16
  go_wp2
  go_loopw [5] (fun i wr => ∃ k : Nat, k ≤ n ∧ i = .int .i64 k ∧ Hid (Below w.heap.size w wr) ∧ Hid (∀ j, j < k → isNm nm cs[j]! = false)) (fun i _ => n - (intOf i).toNat)
  case atStart => exact ⟨0, by omega, rfl, Below.refl _ _, fun j h => absurd h (Nat.not_lt_zero _)⟩
  case round =>
    obtain ⟨k, hk, rfl, HB, HA⟩ := hrel
    by_cases hlt : k < n
    · have hkc : k < cs.length := by rw [HN.out]; exact hlt
      obtain ⟨b, o, rfl, -, hj⟩ := HX.out (by intro e; subst e; simp at hkc)
      have hc := (col_cells ((hj k _ (get!_some hkc)).on HB.out)).1
      have hq := isNm_bytes nm cs[k]!
      generalize hcc : cs[k]! = c at hc hq
      have HCC := hid hcc
      clear hcc hj
      cases hb : isNm nm c with
      | true =>
        rw [hb] at hq
        go_wp2
        go_ret
        exact ⟨ret_int ((findC_hit hkc (by rw [HCC.out]; exact hb) HA.out).symm.trans HR.out), HB.out⟩
      | false =>
        rw [hb] at hq
        go_wp2
        go_roundw
        case rel =>
          refine ⟨k + 1, by omega, by go_num, HB.out, fun j h => ?_⟩
          by_cases e : j = k
          · subst e; rw [HCC.out]; exact hb
          · exact HA.out j (by omega)
        case measure => simp [intOf]; omega
    · have hks : k = n := by omega
      subst hks
      go_wp2
      go_ret
      exact ⟨ret_int ((findC_miss (by rw [HN.out]; exact HA.out)).symm.trans HR.out), HB.out⟩
end Go.Proofs.Ytoadamimfhjoiaa
