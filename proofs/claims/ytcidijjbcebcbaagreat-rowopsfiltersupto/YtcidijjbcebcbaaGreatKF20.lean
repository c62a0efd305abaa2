/-
  A row of heads that is sorted in place: how it lies in memory, exchanges, swapRange, rotate.
  rotate: two stretches change places.
-/
import Derived.Test.YtcidijjbcebcbaaGreatKF02
import Derived.Test.YtcidijjbcebcbaaGreatKF19
import Derived.BigRegion
import Derived.RegionTactic
import Derived.LoopTactic
import Derived.Deep.QuietTactic
namespace Go.Proofs.YtcidijjbcebcbaaGreat.SS
open Go.RowKit Go.Joins

/- Block B holds n heads: at place i that of tag f i. -/
def Rf (enc : Nat → Value) (B n : Nat) (f : Nat → Nat) (w : World) : Prop := ∃ A : Array Value, w.heap[B]? = some (.cells A 45 (0, 0)) ∧ A.size = n ∧ ∀ i, i < n → A[i]? = some (enc (f i))
theorem Rf.lt {enc : Nat → Value} {B n : Nat} {f : Nat → Nat} {w : World} (h : Rf enc B n f w) : B < w.heap.size := let ⟨_, h1, _⟩ := h; lt_of_block h1
theorem Rf.cell {enc : Nat → Value} {B n : Nat} {f : Nat → Nat} {w : World} (h : Rf enc B n f w) {i : Nat} (hi : i < n) : w.cell? ⟨B, i, none⟩ = some (enc (f i)) := by
  obtain ⟨A, h1, h2, h3⟩ := h
  rw [block_cell h1]; exact h3 i hi
theorem Rf.frozen {enc : Nat → Value} {B n : Nat} {f : Nat → Nat} {w : World} (h : Rf enc B n f w) (i : Nat) : w.frozen? ⟨B, i, none⟩ = false := by
  obtain ⟨A, h1, h2, h3⟩ := h
  exact block_frozen h1 i
theorem Rf.kp {enc : Nat → Value} {B n : Nat} {f : Nat → Nat} {w w' : World} {T : Nat → Prop} (h : Rf enc B n f w) (hk : Kp T w w') (ht : ¬ T B) : Rf enc B n f w' := by
  obtain ⟨A, h1, h2, h3⟩ := h
  exact ⟨A, hk.blk h1 ht, h2, h3⟩
theorem Rf.on {enc : Nat → Value} {B n : Nat} {f : Nat → Nat} {w w' : World} (h : Rf enc B n f w) (hb : Below w.heap.size w w') : Rf enc B n f w' := h.kp (T := fun _ => False) (Kp.of hb) id
theorem Rf.drew {enc : Nat → Value} {B n : Nat} {f : Nat → Nat} {w : World} (h : Rf enc B n f w) : Rf enc B n f w.drew := h.on (Below.refl _ _).drew
theorem Rf.swap {enc : Nat → Value} {B n : Nat} {f : Nat → Nat} {w : World} (h : Rf enc B n f w) {i j : Nat} (hi : i < n) (_ : j < n) : Rf enc B n (sw i j f) ((w.setCell ⟨B, i, none⟩ (enc (f j))).setCell ⟨B, j, none⟩ (enc (f i))) := by
  obtain ⟨A, h1, h2, h3⟩ := h
  refine ⟨_, block_set (block_set h1 i _) j _, by simp [h2], fun k hk => ?_⟩
  rw [Array.getElem?_setIfInBounds, Array.getElem?_setIfInBounds]
  unfold sw
  by_cases e1 : j = k
  · subst e1
    rw [if_pos rfl, if_pos (by simp [h2]; exact hk)]
    by_cases e2 : j = i
    · subst e2; rw [if_pos rfl]
    · rw [if_neg e2, if_pos rfl]
  · rw [if_neg e1]
    by_cases e2 : i = k
    · subst e2
      rw [if_pos rfl, if_pos (by rw [h2]; exact hk), if_pos rfl]
    · rw [if_neg e2, if_neg (fun e => e2 e.symm), if_neg (fun e => e1 e.symm)]
      exact h3 k hk
theorem kp_swap {B : Nat} {w : World} {i j : Nat} {u v : Value} : Kp (fun b => b = B) w ((w.setCell ⟨B, i, none⟩ u).setCell ⟨B, j, none⟩ v) := (Kp.set (T := fun b => b = B) rfl _).trans (Kp.set (T := fun b => b = B) rfl _)
theorem swap_any {enc : Nat → Value} {B n : Nat} {f : Nat → Nat} {w : World} (h : Rf enc B n f w) {i j : Nat} (hi : i < n) (hj : j < n) : Rf enc B n (sw i j f) (((w.setCell ⟨B, i, none⟩ (enc (f j))).setCell ⟨B, j, none⟩ (enc (f i))).drew) ∧ Kp (fun b => b = B) w (((w.setCell ⟨B, i, none⟩ (enc (f j))).setCell ⟨B, j, none⟩ (enc (f i))).drew) := ⟨(h.swap hi hj).drew, kp_swap.trans (Kp.drew _ _)⟩
/- Each head is a slice. -/
def Sls (enc : Nat → Value) : Prop := ∀ x, ∃ p n c, enc x = .slice p n c
set_option maxRecDepth 100000 in
set_option maxHeartbeats 2000000 in
theorem swapRange_any {enc : Nat → Value} (hE : Sls enc) {B n cap a b m : Nat} {f : Nat → Nat} {cv : Value} {w : World} (h : Rf enc B n f w) (hd : a + m ≤ b) (hb : b + m ≤ n) (hn : n ≤ 1000000) : Calls Tryz.prog 97 #[.slice (some ⟨B, 0, none⟩) n cap, .int .i64 a, .int .i64 b, .int .i64 m, cv] w fun e w' => e = .returned (.tuple #[]) ∧ Rf enc B n (swR a b m f) w' ∧ Kp (fun b => b = B) w w' := by
  have H := hid h
  have HE := hid hE
  clear h hE
  have nI : (n : Int) ≤ 1000000 := by omega
  go_enter Tryz.func97, Tryz.ntmps97
  go_wp2
  go_loopw [10] (fun x wr => ∃ i : Nat, i ≤ m ∧ x = .int .i64 i ∧ Hid (Rf enc B n (swR a b i f) wr) ∧ Hid (Kp (fun b => b = B) w wr)) (fun x _ => m - (intOf x).toNat)
  case atStart => exact ⟨0, by omega, rfl, by rw [swR_zero]; exact H.out, Kp.refl _ _⟩
  case round =>
    obtain ⟨i, hi, rfl, HR, HK⟩ := hrel
    by_cases hlt : i < m
    · have hltI : (i : Int) < m := by omega
      obtain ⟨x, hx⟩ : ∃ x, x = a + i := ⟨_, rfl⟩
      obtain ⟨y, hy⟩ : ∃ y, y = b + i := ⟨_, rfl⟩
      have xI : (a : Int) + i = x := by omega
      have yI : (b : Int) + i = y := by omega
      have xn : (x : Int) < n := by omega
      have yn : (y : Int) < n := by omega
      have y0 : (0 : Int) ≤ y := by omega
      have x0 : (0 : Int) ≤ x := by omega
      have cx := HR.out.cell (i := x) (by omega)
      have cy := HR.out.cell (i := y) (by omega)
      have fz := HR.out.frozen
      have HS := hid (swap_any HR.out (i := x) (j := y) (by omega) (by omega))
      obtain ⟨px, nx, kx, ex⟩ := HE.out (swR a b i f x)
      obtain ⟨py, ny, ky, ey⟩ := HE.out (swR a b i f y)
      rw [ex] at cx
      rw [ey] at cy
      rw [ex, ey] at HS
      obtain ⟨u, cy2⟩ : ∃ u, (wr.setCell ⟨B, x, none⟩ (.slice py ny ky)).cell? ⟨B, y, none⟩ = some u := by
        by_cases e : x = y
        · subst e; exact ⟨_, World.cell?_setCell_same _ _ _ cx⟩
        · exact ⟨_, (World.cell?_setCell_other _ _ _ _ (by intro e'; simp only [Addr.mk.injEq] at e'; omega)).trans cy⟩
      have HX := hid hx
      have HY := hid hy
      clear hx hy ex ey
      go_wp2_with fail
      go_region
      all_goals
        go_wp2_with fail
        go_roundw
        case rel =>
          have e1 : sw x y (swR a b i f) = swR a b (i + 1) f := by rw [HX.out, HY.out]; exact swR_succ f (n := m) hd hlt
          refine ⟨i + 1, by omega, by go_num, ?_, HK.out.trans HS.out.2⟩
          show Rf _ _ _ _ _
          rw [← e1]; exact HS.out.1
        case measure => simp [intOf]; omega
    · obtain rfl : i = m := by omega
      go_wp2
      go_end0
      exact ⟨rfl, HR.out, HK.out⟩
end Go.Proofs.YtcidijjbcebcbaaGreat.SS
namespace Go.Proofs.YtcidijjbcebcbaaGreat.SS
open Go.RowKit Go.Joins

set_option maxRecDepth 100000 in
set_option maxHeartbeats 2000000 in
theorem rotate_any {enc : Nat → Value} (hE : Sls enc) {B n cap a m b : Nat} {f : Nat → Nat} {cv : Value} {w : World} (h : Rf enc B n f w) (ham : a < m) (hmb : m < b) (hb : b ≤ n) (hn : n ≤ 1000000) : Calls Tryz.prog 76 #[.slice (some ⟨B, 0, none⟩) n cap, .int .i64 a, .int .i64 m, .int .i64 b, cv] w fun e w' => e = .returned (.tuple #[]) ∧ Rf enc B n (rot a m b f) w' ∧ Kp (fun b => b = B) w w' := by
  have H := hid h
  have HE := hid hE
  clear h hE
  have nI : (n : Int) ≤ 1000000 := by omega
  have i0 : (m : Int) - a = ((m - a : Nat) : Int) := by omega
  have j0 : (b : Int) - m = ((b - m : Nat) : Int) := by omega
  obtain ⟨ia, hia⟩ : ∃ i, i = m - a := ⟨_, rfl⟩
  obtain ⟨jb, hjb⟩ : ∃ i, i = b - m := ⟨_, rfl⟩
  rw [← hia] at i0
  rw [← hjb] at j0
  have HI := hid hia
  have HJ := hid hjb
  have h1 : 0 < ia := by omega
  have h2 : 0 < jb := by omega
  clear hia hjb
  go_enter Tryz.func76, Tryz.ntmps76
  go_wp2
  go_loopw [10, 11] (fun x y wr => ∃ i j : Nat, x = .int .i64 i ∧ y = .int .i64 j ∧ 0 < i ∧ 0 < j ∧ i ≤ m ∧ m + j ≤ n ∧ Hid (∃ g, Rf enc B n g wr ∧ rot (m - i) m (m + j) g = rot a m b f) ∧ Hid (Kp (fun b => b = B) w wr)) (fun x y _ => (intOf x).toNat + (intOf y).toNat)
  case atStart => exact ⟨ia, jb, rfl, rfl, h1, h2, by have := HI.out; omega, by have := HJ.out; omega, ⟨f, H.out, by rw [HI.out, HJ.out, show m - (m - a) = a by omega, show m + (b - m) = b by omega]⟩, Kp.refl _ _⟩
  case round =>
    obtain ⟨i, j, rfl, rfl, hi, hj, him, hjn, HG, HK⟩ := hrel
    obtain ⟨g, hg, hr⟩ := HG.out
    have HR := hid hg
    have HQ := hid hr
    clear hg hr HG H
    have mi : (m : Int) - i = ((m - i : Nat) : Int) := by omega
    obtain ⟨mi', hmi⟩ : ∃ x, x = m - i := ⟨_, rfl⟩
    rw [← hmi] at mi
    have HM := hid hmi
    clear hmi
    rcases Nat.lt_trichotomy i j with hlt | heq | hgt
    · have c1 : (((i : Int) != (j : Int))) = true := by simp; omega
      have c2 : ¬ (j : Int) < i := by omega
      have c3 : (m : Int) + j - i = ((m + j - i : Nat) : Int) := by omega
      obtain ⟨mj, hmj⟩ : ∃ x, x = m + j - i := ⟨_, rfl⟩
      rw [← hmj] at c3
      have HMJ := hid hmj
      clear hmj
      have c4 : (m : Int) + j ≤ 1000000 := by omega
      have HS := hid (swapRange_any HE.out (cap := cap) (a := mi') (b := mj) (m := i) (cv := cv) HR.out (by have := HM.out; have := HMJ.out; omega) (by have := HMJ.out; omega) hn)
      have jI : (j : Int) - i = ((j - i : Nat) : Int) := by omega
      obtain ⟨ji, hji⟩ : ∃ x, x = j - i := ⟨_, rfl⟩
      rw [← hji] at jI
      have HJI := hid hji
      clear hji
      go_wp2_with (first
        | (go_at_call 97; refine HS.out.mono ?_; rintro e w2 ⟨rfl, h2, h3⟩; have HR2 := hid h2; have HK2 := hid h3; clear h2 h3))
      go_roundw
      case rel =>
        have e1 := rot_right (m := m) (i := i) (j := j) g hlt him
        rw [← HM.out, ← HMJ.out, ← HJI.out] at e1
        exact ⟨i, ji, rfl, by go_num, hi, by have := HJI.out; omega, him, by have := HJI.out; omega, ⟨_, HR2.out, by rw [← HM.out, e1, HM.out]; exact HQ.out⟩, HK.out.trans HK2.out⟩
      case measure => have := HJI.out; simp [intOf]; omega
    · subst heq
      have c1 : (((i : Int) != (i : Int))) = false := by simp
      have HS := hid (swapRange_any HE.out (cap := cap) (a := mi') (b := m) (m := i) (cv := cv) HR.out (by have := HM.out; omega) (by omega) hn)
      go_wp2_with (first
        | (go_at_call 97; refine HS.out.mono ?_; rintro e w2 ⟨rfl, h2, h3⟩; have HR2 := hid h2; have HK2 := hid h3; clear h2 h3))
      go_end0
      refine ⟨rfl, ?_, HK.out.trans HK2.out⟩
      rw [← HQ.out, ← rot_same g him, ← HM.out]; exact HR2.out
    · have c1 : (((i : Int) != (j : Int))) = true := by simp; omega
      have c2 : (j : Int) < i := by omega
      have HS := hid (swapRange_any HE.out (cap := cap) (a := mi') (b := m) (m := j) (cv := cv) HR.out (by have := HM.out; omega) (by omega) hn)
      have jI : (i : Int) - j = ((i - j : Nat) : Int) := by omega
      obtain ⟨ji, hji⟩ : ∃ x, x = i - j := ⟨_, rfl⟩
      rw [← hji] at jI
      have HJI := hid hji
      clear hji
      go_wp2_with (first
        | (go_at_call 97; refine HS.out.mono ?_; rintro e w2 ⟨rfl, h2, h3⟩; have HR2 := hid h2; have HK2 := hid h3; clear h2 h3))
      go_roundw
      case rel =>
        have e1 := rot_left (m := m) (i := i) (j := j) g hgt him
        rw [← HM.out] at e1
        exact ⟨ji, j, by go_num, rfl, by have := HJI.out; omega, hj, by have := HJI.out; omega, hjn, ⟨_, HR2.out, by rw [HJI.out, show m - (i - j) = mi' + j by have := HM.out; omega, e1, HM.out]; exact HQ.out⟩, HK.out.trans HK2.out⟩
      case measure => have := HJI.out; simp [intOf]; omega
end Go.Proofs.YtcidijjbcebcbaaGreat.SS
