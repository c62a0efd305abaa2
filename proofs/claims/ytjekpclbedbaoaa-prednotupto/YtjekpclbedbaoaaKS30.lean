/-
  symMerge, whole.
-/
import Derived.Test.YtjekpclbedbaoaaKS29
namespace Go.Proofs.Ytjekpclbedbaoaa.SS
open Go.RowKit Go.Joins Go.Sort

/- The left half behind the turning, where nothing is left to do. -/
theorem left_done {c : Nat → Nat → Int} {f : Nat → Nat} {a m b mid st : Nat} (hst : a ≤ st ∧ st ≤ m ∧ st ≤ mid) (hmb : mid + m - st ≤ b) (h1 : up c f a m) (h2 : up c f m b) (ht : tg f a m b) (hq : ¬ a < st ∨ ¬ st < mid) : up c (rot st m (mid + m - st) f) a mid := by
  obtain ⟨u1, u2, -⟩ := half_left hst hmb h1 h2 ht
  rcases hq with q | q
  · rwa [show st = a by omega] at u2 ⊢
  · rwa [show st = mid by omega] at u1 ⊢
theorem right_done {c : Nat → Nat → Int} {f : Nat → Nat} {a m b mid st : Nat} (ham : a ≤ m) (hst : a ≤ st ∧ st ≤ m ∧ st ≤ mid) (hmb : mid + m - st ≤ b) (h1 : up c f a m) (h2 : up c f m b) (ht : tg f a m b) (hq : ¬ st < m ∨ ¬ mid + m - st < b) : up c (rot st m (mid + m - st) f) mid b := by
  obtain ⟨u1, u2, -⟩ := half_right ham hst h1 h2 ht
  rcases hq with q | q
  · rwa [show mid + m - st = mid by omega] at u2 ⊢
  · rwa [show mid + m - st = b by omega] at u1 ⊢
theorem no_rot {f : Nat → Nat} {m mid st : Nat} (hq : st = m ∨ st = mid) (hs : st ≤ m) : rot st m (mid + m - st) f = f := by
  rcases hq with q | q
  · subst q; exact rot_id' _ _ _
  · subst q; rw [show st + m - st = m by omega]; exact rot_id _ _ _
/- Where one merges, what is asked is there: on the left, and on the right behind it. -/
structure Lft (c : Nat → Nat → Int) (f : Nat → Nat) (a m b mid st n : Nat) : Prop where
  tn : Tn n (rot st m (mid + m - st) f)
  u1 : up c (rot st m (mid + m - st) f) a st
  u2 : up c (rot st m (mid + m - st) f) st mid
  t : tg (rot st m (mid + m - st) f) a st mid
theorem lft_of {c : Nat → Nat → Int} {f : Nat → Nat} {a m b mid st n : Nat} (hst : a ≤ st ∧ st ≤ m ∧ st ≤ mid) (hmb : mid + m - st ≤ b) (hbn : b ≤ n) (htn : Tn n f) (h1 : up c f a m) (h2 : up c f m b) (ht : tg f a m b) : Lft c f a m b mid st n := by
  obtain ⟨u1, u2, t⟩ := half_left hst hmb h1 h2 ht
  exact ⟨htn.pm (Pm.rot f hst.2.1 (by omega)) (by omega), u1, u2, t⟩
structure Rgt (c : Nat → Nat → Int) (g : Nat → Nat) (m b mid st n : Nat) : Prop where
  tn : Tn n g
  u1 : up c g mid (mid + m - st)
  u2 : up c g (mid + m - st) b
  t : tg g mid (mid + m - st) b
theorem rgt_of {c : Nat → Nat → Int} {f g : Nat → Nat} {a m b mid st n : Nat} (ham : a ≤ m) (hst : a ≤ st ∧ st ≤ m ∧ st ≤ mid) (hmb : mid + m - st ≤ b) (hbn : b ≤ n) (hmn : mid ≤ n) (htn : Tn n f) (h1 : up c f a m) (h2 : up c f m b) (ht : tg f a m b) (hp : Pm a mid (rot st m (mid + m - st) f) g) : Rgt c g m b mid st n := by
  obtain ⟨u1, u2, t⟩ := half_right ham hst h1 h2 ht
  have e : ∀ i, mid ≤ i → g i = rot st m (mid + m - st) f i := fun i hi => hp.out i (Or.inr hi)
  exact ⟨(htn.pm (Pm.rot f hst.2.1 (by omega)) (by omega)).pm hp hmn, up_same u1 (fun i hi _ => e i hi), up_same u2 (fun i hi _ => e i (by omega)), tg_same t (fun i hi _ => e i hi)⟩
theorem right_same {c : Nat → Nat → Int} {f g : Nat → Nat} {a mid b : Nat} (hp : Pm a mid f g) (h : up c f mid b) : up c g mid b := up_same h (fun i hi _ => hp.out i (Or.inr hi))
theorem left_same {c : Nat → Nat → Int} {f g : Nat → Nat} {a mid b : Nat} (hp : Pm mid b f g) (h : up c f a mid) : up c g a mid := up_same h (fun i _ hi => hp.out i (Or.inl hi))
theorem sym_fin {c : Nat → Nat → Int} (hc : Cm c) {f g1 g : Nat → Nat} {a m b mid st : Nat} (hmid : a ≤ mid ∧ mid ≤ b) (h1 : up c f a m) (h2 : up c f m b) (hx : Cut c f a m b mid st) (p1 : Pm a mid (rot st m (mid + m - st) f) g1) (u1 : up c g1 a mid) (p2 : Pm mid b g1 g) (u2 : up c g mid b) : Pm a b f g ∧ up c g a b := by
  refine ⟨?_, sym_done hc h1 h2 hx ⟨g1, p1, p2, left_same p2 u1, u2⟩⟩
  have := hx.lo
  have := hx.hi
  exact (((Pm.rot f hx.hi.1 (by omega)).mono hx.lo.1 (by omega)).trans (p1.mono (Nat.le_refl _) hmid.2)).trans (p2.mono hmid.1 (Nat.le_refl _))
theorem dI {x y : Nat} (h : x < y) : decide ((x : Int) < (y : Int)) = true := decide_eq_true (by omega)
theorem dN {x y : Nat} (h : ¬ x < y) : decide ((x : Int) < (y : Int)) = false := decide_eq_false (by omega)
end Go.Proofs.Ytjekpclbedbaoaa.SS
