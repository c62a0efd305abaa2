/-
  What value.Compare, and what it calls, return, for every two values.
-/
import Derived.Test.YtoadamimfhjoiaaValid
import Derived.Handy
namespace Go.Proofs.Ytoadamimfhjoiaa
open Go.RowKit

/- What was there is as it was; blocks may have come; the tape was asked no less often. -/
structure Grew (w w' : World) : Prop where
  below : Below w.heap.size w w'
  drawn : w.drawn ≤ w'.drawn
theorem Grew.refl (w : World) : Grew w w := ⟨Below.refl _ _, Nat.le_refl _⟩
theorem Grew.trans {a b c : World} (h : Grew a b) (k : Grew b c) : Grew a c := ⟨h.below.trans (k.below.mono h.below.size), Nat.le_trans h.drawn k.drawn⟩
theorem Grew.drewN {a b : World} (h : Grew a b) (n : Nat) : Grew a (b.drewN n) := ⟨h.below.trans ⟨rfl, rfl, rfl, Nat.le_refl _, fun _ _ => rfl⟩, Nat.le_trans h.drawn (Nat.le_add_right _ n)⟩
theorem Grew.drew {a b : World} (h : Grew a b) : Grew a b.drew := ⟨h.below.drew, Nat.le_trans h.drawn (Nat.le_add_right _ 1)⟩
theorem Grew.alloc {a b : World} (h : Grew a b) (o : Obj) : Grew a (b.alloc o) := ⟨h.below.alloc h.below.size o, h.drawn⟩
def cmpI (a b : Int) : Int := if a < b then -1 else if b < a then 1 else 0
def nth8 (a0 a1 a2 a3 a4 a5 a6 a7 : Int) : Nat → Int
  | 0 => a0 | 1 => a1 | 2 => a2 | 3 => a3 | 4 => a4 | 5 => a5 | 6 => a6 | 7 => a7 | _ => 0
/- The first place from k on, of m places, at which x and y part, and how. -/
def cmpFrom (x y : Nat → Int) : Nat → Nat → Int
  | 0, _ => 0
  | m + 1, k => if x k = y k then cmpFrom x y m (k + 1) else cmpI (x k) (y k)
def Arr (w : World) (b o : Nat) (x : Nat → Int) : Prop := ∀ i, i < 8 → w.cell? ⟨b, o + i, none⟩ = some (.int .i64 (x i))

theorem hid {p : Prop} (h : p) : Hid p := h
theorem ret_int {k : IntKind} {a b : Int} (h : a = b) : Ending.returned (.int k a) = .returned (.int k b) := by rw [h]

set_option maxHeartbeats 400000 in
theorem cmpInt_any {a b : Int} {w : World} :
    Calls Try.prog 75 #[.int .i64 a, .int .i64 b] w fun e w' => e = .returned (.int .i64 (cmpI a b)) ∧ w' = w := by
  go_enter Try.func75, Try.ntmps75
  go_wp2
  all_goals
    go_ret
    refine ⟨ret_int ?_, rfl⟩
    unfold cmpI
    split <;> (try split) <;> omega
theorem cmpI_self (a : Int) : cmpI a a = 0 := by simp [cmpI]
theorem cmpI_ne {a b : Int} (h : ¬ a = b) : (cmpI a b != 0) = true := by unfold cmpI; split <;> (try split) <;> simp <;> omega

theorem lt8 {i : Nat} (h : i < 8) : i = 0 ∨ i = 1 ∨ i = 2 ∨ i = 3 ∨ i = 4 ∨ i = 5 ∨ i = 6 ∨ i = 7 := by omega
theorem below_drewN {B : Nat} {a w : World} (h : Below B a w) (n : Nat) : Below B a (w.drewN n) := h.trans ⟨rfl, rfl, rfl, Nat.le_refl _, fun _ _ => rfl⟩
theorem cmpFrom_eq {x y : Nat → Int} {k : Nat} (hk : k < 8) (h : x k = y k) : cmpFrom x y (8 - k) k = cmpFrom x y (8 - (k + 1)) (k + 1) := by
  obtain ⟨m, hm⟩ : ∃ m, 8 - k = m + 1 := ⟨8 - (k + 1), by omega⟩
  rw [hm, show 8 - (k + 1) = m from by omega]; simp [cmpFrom, h]
theorem cmpFrom_ne {x y : Nat → Int} {k : Nat} (hk : k < 8) (h : ¬ x k = y k) : cmpFrom x y (8 - k) k = cmpI (x k) (y k) := by
  obtain ⟨m, hm⟩ : ∃ m, 8 - k = m + 1 := ⟨8 - (k + 1), by omega⟩
  rw [hm]; simp [cmpFrom, h]

set_option maxHeartbeats 400000 in
theorem cmpBuckets_any {a0 a1 a2 a3 a4 a5 a6 a7 b0 b1 b2 b3 b4 b5 b6 b7 : Int} {w : World} :
    Calls Try.prog 77 #[H8 a0 a1 a2 a3 a4 a5 a6 a7, H8 b0 b1 b2 b3 b4 b5 b6 b7] w fun e w' => e = .returned (.int .i64 (cmpFrom (nth8 a0 a1 a2 a3 a4 a5 a6 a7) (nth8 b0 b1 b2 b3 b4 b5 b6 b7) 8 0)) ∧ Grew w w' := by
  generalize hx : nth8 a0 a1 a2 a3 a4 a5 a6 a7 = x
  generalize hy : nth8 b0 b1 b2 b3 b4 b5 b6 b7 = y
  have HX := (show Hid (nth8 a0 a1 a2 a3 a4 a5 a6 a7 = x) from hx)
  have HY := (show Hid (nth8 b0 b1 b2 b3 b4 b5 b6 b7 = y) from hy)
  clear hx hy
  go_enter Try.func77, Try.ntmps77
  go_wp2
  go_loopw [7] (fun i w'' => ∃ k : Nat, k ≤ 8 ∧ i = .int .i64 k ∧ Hid (cmpFrom x y (8 - k) k = cmpFrom x y 8 0) ∧ Hid (Arr w'' w.heap.size 0 x) ∧ Hid (Arr w'' (w.heap.size + 1) 0 y) ∧ Hid (Grew w w'')) (fun i _ => 8 - (intOf i).toNat)
  case atStart => 
    refine ⟨0, by omega, rfl, rfl, ?_, ?_, ?_⟩
    · intro i hi
      rw [← HX.out]
      rcases lt8 hi with rfl | rfl | rfl | rfl | rfl | rfl | rfl | rfl <;> (simp [nth8, go_sem]; done)
    · intro i hi
      rw [← HY.out]
      rcases lt8 hi with rfl | rfl | rfl | rfl | rfl | rfl | rfl | rfl <;> (simp [nth8, go_sem]; done)
    · exact ((Grew.refl _).alloc _).alloc _
  case round =>
    obtain ⟨k, hk, rfl, HC, HA, HB, HBel⟩ := hrel
    by_cases hlt : k < 8
    · have hA : wr.cell? ⟨w.heap.size, k, none⟩ = some (.int .i64 (x k)) := by have := HA.out k hlt; simpa using this
      have hB : wr.cell? ⟨w.heap.size + 1, k, none⟩ = some (.int .i64 (y k)) := by have := HB.out k hlt; simpa using this
      by_cases he : x k = y k
      · have H0 : Hid (x k = y k) := he
        rw [← he] at hB
        have hz := cmpI_self (x k)
        clear he
        go_wp2_with fail
        go_quiet ((go_at_call 75; exact Calls.quiet_of_same cmpInt_any))
        go_wp2
        go_roundw
        case rel => exact ⟨k + 1, by omega, by go_num, (cmpFrom_eq hlt H0.out).symm.trans HC.out, HA.out, HB.out, HBel.out.drewN _⟩
        case measure => simp [intOf]; omega
      · have H0 : Hid (¬ x k = y k) := he
        have hz := cmpI_ne he
        clear he
        go_wp2_with fail
        go_quiet ((go_at_call 75; exact Calls.quiet_of_same cmpInt_any))
        go_wp2
        go_ret
        exact ⟨ret_int ((cmpFrom_ne hlt H0.out).symm.trans HC.out), HBel.out.drewN _⟩
    · have h8 : k = 8 := by omega
      subst h8
      go_wp2
      go_ret
      exact ⟨ret_int (by have := HC.out; simpa [cmpFrom] using this), HBel.out⟩

/- The order of texts, by their bytes. -/
def cmpB : List UInt8 → List UInt8 → Int
  | [], [] => 0
  | [], _ :: _ => -1
  | _ :: _, [] => 1
  | a :: x, b :: y => if a < b then -1 else if b < a then 1 else cmpB x y
theorem cmpB_less (x y : List UInt8) : Op.bytesLess x y = decide (cmpB x y = -1) := by
  induction x generalizing y with
  | nil => cases y <;> simp [Op.bytesLess, cmpB]
  | cons a x ih =>
    cases y with
    | nil => simp [Op.bytesLess, cmpB]
    | cons b y =>
      simp only [Op.bytesLess, cmpB, ih]
      by_cases h1 : a < b
      · simp [h1]
      · by_cases h2 : b < a
        · have : ¬ a = b := fun e => by subst e; exact h1 h2
          simp [h1, h2, this]
        · have : a = b := UInt8.le_antisymm (UInt8.not_lt.1 h2) (UInt8.not_lt.1 h1)
          subst this; simp [h1]
theorem cmpB_zero (x y : List UInt8) : cmpB x y = 0 ↔ x = y := by
  induction x generalizing y with
  | nil => cases y <;> simp [cmpB]
  | cons a x ih =>
    cases y with
    | nil => simp [cmpB]
    | cons b y =>
      simp only [cmpB, List.cons.injEq]
      by_cases h1 : a < b
      · have : ¬ a = b := fun e => by subst e; exact UInt8.lt_irrefl _ h1
        simp [h1, this]
      · by_cases h2 : b < a
        · have : ¬ a = b := fun e => by subst e; exact h1 h2
          simp [h1, h2, this]
        · have : a = b := UInt8.le_antisymm (UInt8.not_lt.1 h2) (UInt8.not_lt.1 h1)
          subst this; simp [h1, ih]
theorem cmpB_three (x y : List UInt8) : cmpB x y = -1 ∨ cmpB x y = 0 ∨ cmpB x y = 1 := by
  induction x generalizing y with
  | nil => cases y <;> simp [cmpB]
  | cons a x ih =>
    cases y with
    | nil => simp [cmpB]
    | cons b y =>
      simp only [cmpB]
      split
      · simp
      · split
        · simp
        · exact ih y
def cmpS (s t : ByteArray) : Int := cmpB s.toList t.toList
set_option maxHeartbeats 400000 in
theorem cmpStr_any {s t : ByteArray} {w : World} :
    Calls Try.prog 76 #[.string s, .string t] w fun e w' => e = .returned (.int .i64 (cmpS s t)) ∧ w' = w := by
  go_enter Try.func76, Try.ntmps76
  go_wp2
  all_goals
    go_ret
    refine ⟨ret_int ?_, rfl⟩
    have h3 := cmpB_three s.toList t.toList
    have hl := cmpB_less s.toList t.toList
    have h0 := cmpB_zero s.toList t.toList
    unfold cmpS
    simp_all
  all_goals omega

def thn (c d : Int) : Int := if c = 0 then d else c
theorem thn_zero {c d : Int} (h : (c != 0) = false) : thn c d = d := by simp at h; simp [thn, h]
theorem thn_ne {c d : Int} (h : (c != 0) = true) : thn c d = c := by simp at h; simp [thn, h]
def cmpV (k n : Int) (s : ByteArray) (a0 a1 a2 a3 a4 a5 a6 a7 : Int) (k' n' : Int) (s' : ByteArray) (b0 b1 b2 b3 b4 b5 b6 b7 : Int) : Int :=
  thn (cmpI k k') (thn (cmpI n n') (thn (cmpS s s') (cmpFrom (nth8 a0 a1 a2 a3 a4 a5 a6 a7) (nth8 b0 b1 b2 b3 b4 b5 b6 b7) 8 0)))
set_option maxHeartbeats 400000 in
theorem compare_any {k n : Int} {s : ByteArray} {a0 a1 a2 a3 a4 a5 a6 a7 : Int} {k' n' : Int} {s' : ByteArray} {b0 b1 b2 b3 b4 b5 b6 b7 : Int} {w : World} :
    Calls Try.prog 62 #[V k n s a0 a1 a2 a3 a4 a5 a6 a7, V k' n' s' b0 b1 b2 b3 b4 b5 b6 b7] w fun e w' => e = .returned (.int .i64 (cmpV k n s a0 a1 a2 a3 a4 a5 a6 a7 k' n' s' b0 b1 b2 b3 b4 b5 b6 b7)) ∧ Grew w w' := by
  generalize hr : cmpV k n s a0 a1 a2 a3 a4 a5 a6 a7 k' n' s' b0 b1 b2 b3 b4 b5 b6 b7 = r
  unfold cmpV at hr
  cases h1 : cmpI k k' != 0
  · rw [thn_zero h1] at hr
    cases h2 : cmpI n n' != 0
    · rw [thn_zero h2] at hr
      cases h3 : cmpS s s' != 0
      · rw [thn_zero h3] at hr
        have HR : Hid _ := hr
        clear hr
        go_enter Try.func62, Try.ntmps62
        go_wp2_with (first | (go_at_call 75; refine cmpInt_any.mono ?_; rintro e w' ⟨rfl, rfl⟩) | (go_at_call 76; refine cmpStr_any.mono ?_; rintro e w' ⟨rfl, rfl⟩) | (go_at_call 77; refine cmpBuckets_any.mono ?_; rintro e w' ⟨rfl, hb⟩))
        go_ret
        exact ⟨ret_int HR.out, (((Grew.refl _).alloc _).alloc _).trans hb⟩
      · rw [thn_ne h3] at hr
        have HR : Hid _ := hr
        clear hr
        go_enter Try.func62, Try.ntmps62
        go_wp2_with (first | (go_at_call 75; refine cmpInt_any.mono ?_; rintro e w' ⟨rfl, rfl⟩) | (go_at_call 76; refine cmpStr_any.mono ?_; rintro e w' ⟨rfl, rfl⟩))
        go_ret
        exact ⟨ret_int HR.out, ((Grew.refl _).alloc _).alloc _⟩
    · rw [thn_ne h2] at hr
      have HR : Hid _ := hr
      clear hr
      go_enter Try.func62, Try.ntmps62
      go_wp2_with (first | (go_at_call 75; refine cmpInt_any.mono ?_; rintro e w' ⟨rfl, rfl⟩))
      go_ret
      exact ⟨ret_int HR.out, ((Grew.refl _).alloc _).alloc _⟩
  · rw [thn_ne h1] at hr
    have HR : Hid _ := hr
    clear hr
    go_enter Try.func62, Try.ntmps62
    go_wp2_with (first | (go_at_call 75; refine cmpInt_any.mono ?_; rintro e w' ⟨rfl, rfl⟩))
    go_ret
    exact ⟨ret_int HR.out, ((Grew.refl _).alloc _).alloc _⟩
end Go.Proofs.Ytoadamimfhjoiaa
