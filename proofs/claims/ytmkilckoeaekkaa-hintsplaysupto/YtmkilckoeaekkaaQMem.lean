/-
  Blocks that hold a fingerprint; what Join returns.
-/
import Derived.Test.YtmkilckoeaekkaaQHas
namespace Go.Proofs.Ytmkilckoeaekkaa
open Go.RowKit

theorem lt_of_block {w : World} {b : Nat} {o : Obj} (h : w.heap[b]? = some o) : b < w.heap.size := (Array.getElem?_eq_some_iff.1 h).1
theorem below_on {W w1 w2 : World} (h : Below W.heap.size W w1) (h2 : Below w1.heap.size w1 w2) : Below W.heap.size W w2 := h.trans (h2.mono h.size)
theorem block_on {w w' : World} {b : Nat} {o : Obj} (h : w.heap[b]? = some o) (hb : Below w.heap.size w w') : w'.heap[b]? = some o := (hb.block b (lt_of_block h)).trans h
theorem block_cell {w : World} {b : Nat} {xs : Array Value} {t : TypeId} {fz : Nat × Nat} (h : w.heap[b]? = some (.cells xs t fz)) (o : Nat) : w.cell? ⟨b, o, none⟩ = xs[o]? := by
  simp [World.cell?, h]
theorem alloc_block (w : World) (o : Obj) : (w.alloc o).heap[w.heap.size]? = some o := by
  show (w.heap.push o)[w.heap.size]? = _
  simp
theorem block_frozen {w : World} {b : Nat} {xs : Array Value} {t : TypeId} (h : w.heap[b]? = some (.cells xs t (0, 0))) (o : Nat) : w.frozen? ⟨b, o, none⟩ = false := by
  simp [World.frozen?, h]
theorem block_set {w : World} {b : Nat} {xs : Array Value} {t : TypeId} {fz : Nat × Nat} (h : w.heap[b]? = some (.cells xs t fz)) (o : Nat) (v : Value) : (w.setCell ⟨b, o, none⟩ v).heap[b]? = some (.cells (xs.setIfInBounds o v) t fz) := by
  simp [World.setCell, Array.getElem?_modify, h]
/- This block holds this fingerprint. -/
def Fb (w : World) (b : Nat) (F : F256) : Prop := w.heap[b]? = some (.cells (cells4 F) 49 (0, 0))
theorem Fb.lt {w : World} {b : Nat} {F : F256} (h : Fb w b F) : b < w.heap.size := lt_of_block h
theorem Fb.on {w w' : World} {b : Nat} {F : F256} (h : Fb w b F) (hb : Below w.heap.size w w') : Fb w' b F := block_on h hb
theorem Fb.cell {w : World} {b : Nat} {F : F256} (h : Fb w b F) {q : Nat} (hq : q < 4) : w.cell? ⟨b, q, none⟩ = some (.int .u64 (u (fw F q))) := (block_cell h q).trans (cells4_at F hq)
theorem Fb.cells {w : World} {b : Nat} {F : F256} (h : Fb w b F) : ∀ o, w.cell? ⟨b, o, none⟩ = #[Value.int .u64 (u (fw F 0)), .int .u64 (u (fw F 1)), .int .u64 (u (fw F 2)), .int .u64 (u (fw F 3))][o]? := fun o => block_cell h o
theorem Fb.frozen {w : World} {b : Nat} {F : F256} (h : Fb w b F) (o : Nat) : w.frozen? ⟨b, o, none⟩ = false := block_frozen h o
theorem Fb.other {w : World} {b c o : Nat} {F : F256} {v : Value} (h : Fb w b F) (hc : b ≠ c) : Fb (w.setCell ⟨c, o, none⟩ v) b F := (Below.heap_setCell _ _ _ _ hc).trans h
theorem Fb.alloc {w : World} {b : Nat} {F : F256} (h : Fb w b F) (o : Obj) : Fb (w.alloc o) b F := h.on ((Below.refl _ _).alloc (Nat.le_refl _) o)
theorem Fb.drew {w : World} {b : Nat} {F : F256} (h : Fb w b F) : Fb w.drew b F := h
theorem Fb.made (w : World) (F : F256) : Fb (w.alloc (.cells #[.int .u64 (u (fw F 0)), .int .u64 (u (fw F 1)), .int .u64 (u (fw F 2)), .int .u64 (u (fw F 3))] 49 (0, 0))) w.heap.size F := alloc_block w _
theorem Fb.zero (w : World) : Fb (w.alloc (.cells #[.int .u64 0, .int .u64 0, .int .u64 0, .int .u64 0] 49 (0, 0))) w.heap.size 0 := alloc_block w _
/- One word set. -/
def setW (F : F256) (q : Nat) (x : BitVec 64) : F256 := mk4 (if q = 0 then x else fw F 0) (if q = 1 then x else fw F 1) (if q = 2 then x else fw F 2) (if q = 3 then x else fw F 3)
theorem cells4_set (F : F256) {q : Nat} (hq : q < 4) (x : BitVec 64) : (cells4 F).setIfInBounds q (.int .u64 (u x)) = cells4 (setW F q x) := by
  unfold setW cells4
  obtain ⟨h0, h1, h2, h3⟩ := fw_mk4 (if q = 0 then x else fw F 0) (if q = 1 then x else fw F 1) (if q = 2 then x else fw F 2) (if q = 3 then x else fw F 3)
  rw [h0, h1, h2, h3]
  rcases (show q = 0 ∨ q = 1 ∨ q = 2 ∨ q = 3 by omega) with rfl | rfl | rfl | rfl <;> rfl
theorem Fb.set {w : World} {b : Nat} {F : F256} (h : Fb w b F) {q : Nat} (hq : q < 4) (x : BitVec 64) : Fb (w.setCell ⟨b, q, none⟩ (.int .u64 (u x))) b (setW F q x) := by
  have := block_set h q (.int .u64 (u x))
  rwa [cells4_set F hq] at this
theorem fw_setW (F : F256) (q : Nat) (x : BitVec 64) {j : Nat} (hj : j < 4) : fw (setW F q x) j = if q = j then x else fw F j := by
  obtain ⟨h0, h1, h2, h3⟩ := fw_mk4 (if q = 0 then x else fw F 0) (if q = 1 then x else fw F 1) (if q = 2 then x else fw F 2) (if q = 3 then x else fw F 3)
  unfold setW
  rcases (show j = 0 ∨ j = 1 ∨ j = 2 ∨ j = 3 by omega) with rfl | rfl | rfl | rfl
  · exact h0
  · exact h1
  · exact h2
  · exact h3
theorem f_ext4 {F G : F256} (h : ∀ j, j < 4 → fw F j = fw G j) : F = G := fw_ext (h 0 (by omega)) (h 1 (by omega)) (h 2 (by omega)) (h 3 (by omega))
theorem fw_zero (j : Nat) : fw 0 j = 0 := by apply BitVec.eq_of_getLsbD_eq; intro i _; rw [fw_bit]; simp
/- The first j words of both. -/
def joinTo (F G : F256) : Nat → F256
  | 0 => 0
  | j + 1 => setW (joinTo F G j) j (fw F j ||| fw G j)
theorem fw_joinTo (F G : F256) (j q : Nat) (hq : q < 4) : fw (joinTo F G j) q = if q < j then fw F q ||| fw G q else 0 := by
  induction j with
  | zero => show fw 0 q = _; rw [fw_zero]; simp
  | succ j ih =>
    rw [joinTo, fw_setW _ _ _ hq, ih]
    by_cases h : j = q
    · subst h; simp
    · have : (q < j + 1) ↔ q < j := by omega
      simp [h, this]
theorem joinTo_four (F G : F256) : joinTo F G 4 = F ||| G := by
  apply f_ext4; intro j hj; rw [fw_joinTo _ _ _ _ hj, fw_or]; simp [hj]
abbrev zs : Array Value := #[.int .u64 0, .int .u64 0, .int .u64 0, .int .u64 0]
abbrev c4 (F : F256) : Array Value := #[.int .u64 (u (fw F 0)), .int .u64 (u (fw F 1)), .int .u64 (u (fw F 2)), .int .u64 (u (fw F 3))]
theorem boxes4 (w : World) (F G : F256) : Fb ((((w.alloc (.cells (c4 F) 49 (0, 0))).alloc (.cells (c4 G) 49 (0, 0))).alloc (.cells zs 49 (0, 0))).alloc (.cells zs 49 (0, 0))) w.heap.size F ∧ Fb ((((w.alloc (.cells (c4 F) 49 (0, 0))).alloc (.cells (c4 G) 49 (0, 0))).alloc (.cells zs 49 (0, 0))).alloc (.cells zs 49 (0, 0))) (w.heap.size + 1) G ∧ Fb ((((w.alloc (.cells (c4 F) 49 (0, 0))).alloc (.cells (c4 G) 49 (0, 0))).alloc (.cells zs 49 (0, 0))).alloc (.cells zs 49 (0, 0))) (w.heap.size + 1 + 1) 0 ∧ Fb ((((w.alloc (.cells (c4 F) 49 (0, 0))).alloc (.cells (c4 G) 49 (0, 0))).alloc (.cells zs 49 (0, 0))).alloc (.cells zs 49 (0, 0))) (w.heap.size + 1 + 1 + 1) 0 ∧ Below w.heap.size w ((((w.alloc (.cells (c4 F) 49 (0, 0))).alloc (.cells (c4 G) 49 (0, 0))).alloc (.cells zs 49 (0, 0))).alloc (.cells zs 49 (0, 0))) := by
  have k1 := Fb.made (w.alloc (.cells (c4 F) 49 (0, 0))) G
  have k2 := Fb.zero ((w.alloc (.cells (c4 F) 49 (0, 0))).alloc (.cells (c4 G) 49 (0, 0)))
  have k3 := Fb.zero (((w.alloc (.cells (c4 F) 49 (0, 0))).alloc (.cells (c4 G) 49 (0, 0))).alloc (.cells zs 49 (0, 0)))
  simp only [World.size_alloc] at k1 k2 k3
  refine ⟨(((Fb.made w F).alloc _).alloc _).alloc _, (k1.alloc _).alloc _, k2.alloc _, k3, ?_⟩
  go_grown
set_option maxHeartbeats 400000 in
theorem join_any (F G : F256) (w : World) : Calls Try.prog 33 #[B4 F, B4 G] w fun e w' => e = .returned (B4 (F ||| G)) ∧ Below w.heap.size w w' := by
  have HS := hid (boxes4 w F G)
  go_enter Try.func33, Try.ntmps33
  go_wp2_with fail
  go_loopw [7] (fun i wr => ∃ j : Nat, j ≤ 4 ∧ i = .int .i64 j ∧ Hid (Fb wr w.heap.size F) ∧ Hid (Fb wr (w.heap.size + 1) G) ∧ Hid (Fb wr (w.heap.size + 1 + 1) 0) ∧ Hid (Fb wr (w.heap.size + 1 + 1 + 1) (joinTo F G j)) ∧ Hid (Below w.heap.size w wr)) (fun i _ => 4 - (intOf i).toNat)
  case atStart => exact ⟨0, by omega, rfl, HS.out.1, HS.out.2.1, HS.out.2.2.1, HS.out.2.2.2.1, HS.out.2.2.2.2⟩
  case round =>
    obtain ⟨j, hj, rfl, K0, K1, K2, K3, HB⟩ := hrel
    by_cases hlt : j < 4
    · have c0 := K0.out.cell hlt
      have c1 := K1.out.cell hlt
      have c3 := K3.out.cell hlt
      have f3 := K3.out.frozen j
      have HO := bits_or (fw F j) (fw G j)
      generalize hx : fw F j ||| fw G j = x at *
      have HX := hid hx
      clear hx
      go_wp2_with fail
      go_region
      go_wp2
      go_roundw
      case rel =>
        refine ⟨j + 1, by omega, by go_num, ?_, ?_, ?_, ?_, ?_⟩
        · exact K0.out.other (by omega)
        · exact K1.out.other (by omega)
        · exact K2.out.other (by omega)
        · show Fb _ _ (setW (joinTo F G j) j (fw F j ||| fw G j))
          rw [HX.out]; exact K3.out.set hlt x
        · exact (HB.out.setCell (by show _ ≤ w.heap.size + 1 + 1 + 1; omega) _).drew
      case measure => simp [intOf]; omega
    · have h4 : j = 4 := by omega
      subst h4
      have c2 := K2.out.cells
      have f2 := K2.out.frozen
      have c3 := K3.out.cells
      have HJ := hid (joinTo_four F G)
      generalize joinTo F G 4 = J at *
      have l2 := K2.out.lt
      go_wp2
      refine bodyPost_ret (v := B4 J) (by simp [results, Try.results33, go_sem, c2]) rfl ⟨by rw [HJ.out], ?_⟩
      have hbw := HB.out
      clear c2 f2 c3
      go_grown
end Go.Proofs.Ytmkilckoeaekkaa
