/-
  Samples as plain data: a run of them, what is added, what is told of a moment and of some time.
-/
import Derived.Test.YtkjbnanjlcdgjaaQData
namespace Go.Proofs.Ytkjbnanjlcdgjaa
open Go.RowKit

structure Sp where
  t : Int
  vs : Rw
instance : DecidableEq Sp := fun x y => decidable_of_iff (x.t = y.t ∧ x.vs = y.vs) (by cases x; cases y; simp)
instance : Inhabited Sp := ⟨⟨0, []⟩⟩
/- How many of the first ones stand ahead of a moment. -/
def posT (t : Int) : List Sp → Nat
  | [] => 0
  | x :: r => if x.t < t then posT t r + 1 else 0
def hasT (l : List Sp) (t : Int) : Bool := l.any (fun s => decide (s.t = t))
def getT : List Sp → Int → Rw
  | [], _ => []
  | x :: r, t => if x.t = t then x.vs else getT r t
def Up (l : List Sp) : Prop := l.Pairwise (fun a b => a.t < b.t)
def insS (l : List Sp) (s : Sp) : List Sp := l.take (posT s.t l) ++ s :: l.drop (posT s.t l)
def addS (l : List Sp) (s : Sp) : List Sp := if hasT l s.t then l else insS l s
def inR (a b : Int) (s : Sp) : Bool := decide (a ≤ s.t ∧ s.t ≤ b)
def rngS (l : List Sp) (a b : Int) : List Sp := l.filter (inR a b)
theorem posT_le (t : Int) : ∀ l, posT t l ≤ l.length
  | [] => Nat.le_refl _
  | x :: r => by have := posT_le t r; unfold posT; split <;> simp; omega
theorem posT_lt {t : Int} : ∀ {l : List Sp} {j : Nat} {s : Sp}, j < posT t l → l[j]? = some s → s.t < t
  | [], _, _, h, _ => by simp [posT] at h
  | x :: r, j, s, h, hs => by
    unfold posT at h
    split at h
    · rename_i hx
      cases j with
      | zero => simp at hs; rw [← hs]; exact hx
      | succ j => exact posT_lt (l := r) (j := j) (by omega) (by simpa using hs)
    · omega
theorem posT_at {t : Int} : ∀ {l : List Sp} {s : Sp}, l[posT t l]? = some s → t ≤ s.t
  | [], _, h => by simp at h
  | x :: r, s, h => by
    unfold posT at h
    split at h
    · exact posT_at (l := r) (by simpa using h)
    · rename_i hx
      simp at h; rw [← h]; omega
theorem up_lt {l : List Sp} (hu : Up l) {i j : Nat} {x y : Sp} (hij : i < j) (hx : l[i]? = some x) (hy : l[j]? = some y) : x.t < y.t := by
  obtain ⟨hi, rfl⟩ := List.getElem?_eq_some_iff.1 hx
  obtain ⟨hj, rfl⟩ := List.getElem?_eq_some_iff.1 hy
  exact List.pairwise_iff_getElem.1 hu i j hi hj hij
theorem posT_ge {t : Int} {l : List Sp} (hu : Up l) {j : Nat} {s : Sp} (h : posT t l ≤ j) (hs : l[j]? = some s) : t ≤ s.t := by
  have hj := (List.getElem?_eq_some_iff.1 hs).1
  have hp : posT t l < l.length := by omega
  have h1 := posT_at (t := t) (List.getElem?_eq_getElem hp)
  by_cases e : posT t l = j
  · subst e; rw [List.getElem?_eq_getElem hp] at hs; cases hs; exact h1
  · have := up_lt hu (show posT t l < j by omega) (List.getElem?_eq_getElem hp) hs; omega
theorem posT_of {t : Int} : ∀ {l : List Sp} {k : Nat}, k ≤ l.length → (∀ j s, j < k → l[j]? = some s → s.t < t) → (∀ s, l[k]? = some s → t ≤ s.t) → posT t l = k
  | [], k, h, _, _ => by simp at h; simp [posT, h]
  | x :: r, 0, _, _, h2 => by
    have := h2 x (by simp)
    unfold posT; rw [if_neg (by omega)]
  | x :: r, k + 1, h, h1, h2 => by
    have hx := h1 0 x (by omega) (by simp)
    unfold posT
    rw [if_pos hx, posT_of (l := r) (k := k) (by simpa using h) (fun j s hj hs => h1 (j + 1) s (by omega) (by simpa using hs)) (fun s hs => h2 s (by simpa using hs))]
theorem hasT_iff {l : List Sp} {t : Int} : hasT l t = true ↔ ∃ s ∈ l, s.t = t := by simp [hasT]
theorem hasT_of {l : List Sp} {t : Int} {k : Nat} {s : Sp} (h : l[k]? = some s) (e : s.t = t) : hasT l t = true := hasT_iff.2 ⟨s, List.mem_of_getElem? h, e⟩
theorem hasT_no {l : List Sp} {t : Int} (h : hasT l t = false) {s : Sp} (hs : s ∈ l) : s.t ≠ t := fun e => by rw [hasT_iff.2 ⟨s, hs, e⟩] at h; cases h
theorem getT_cons_ne {x : Sp} {r : List Sp} {t : Int} (h : x.t ≠ t) : getT (x :: r) t = getT r t := by unfold getT; rw [if_neg h]; cases r <;> rfl
theorem getT_first {t : Int} : ∀ {l : List Sp} {k : Nat} {s : Sp}, (∀ j x, j < k → l[j]? = some x → x.t ≠ t) → l[k]? = some s → s.t = t → getT l t = s.vs
  | [], _, _, _, h, _ => by simp at h
  | x :: r, 0, s, _, h, e => by simp at h; subst h; unfold getT; rw [if_pos e]
  | x :: r, k + 1, s, h1, h, e => by
    rw [getT_cons_ne (h1 0 x (by omega) (by simp))]
    exact getT_first (l := r) (k := k) (fun j y hj hy => h1 (j + 1) y (by omega) (by simpa using hy)) (by simpa using h) e
theorem getT_no {t : Int} : ∀ {l : List Sp}, hasT l t = false → getT l t = []
  | [], _ => rfl
  | x :: r, h => by
    rw [getT_cons_ne (hasT_no h (by simp))]
    exact getT_no (l := r) (by simp [hasT] at h ⊢; exact h.2)
theorem hasT_pos {l : List Sp} (hu : Up l) {t : Int} (h : hasT l t = true) : ∃ s, l[posT t l]? = some s ∧ s.t = t ∧ getT l t = s.vs := by
  obtain ⟨s, hs, e⟩ := hasT_iff.1 h
  obtain ⟨k, hk, rfl⟩ := List.getElem_of_mem hs
  have hk' := List.getElem?_eq_getElem hk
  have hp : posT t l = k := posT_of (by omega) (fun j x hj hx => by have := up_lt hu hj hx hk'; omega) (fun x hx => by rw [hk'] at hx; cases hx; omega)
  rw [hp]
  exact ⟨_, hk', e, getT_first (fun j x hj hx => by have := up_lt hu hj hx hk'; omega) hk' e⟩
theorem hasT_nopos {l : List Sp} {t : Int} (h : hasT l t = false) {s : Sp} (hs : l[posT t l]? = some s) : t < s.t := by
  have h1 := posT_at hs
  have h2 := hasT_no h (List.mem_of_getElem? hs)
  omega
theorem hasT_none {l : List Sp} (hu : Up l) {t : Int} (h : ∀ s, l[posT t l]? = some s → s.t ≠ t) : hasT l t = false := by
  cases e : hasT l t with
  | false => rfl
  | true => obtain ⟨s, h1, h2, _⟩ := hasT_pos hu e; exact absurd h2 (h s h1)
theorem hasT_before {l : List Sp} {t : Int} (h : ∀ j s, j < l.length → l[j]? = some s → s.t ≠ t) : hasT l t = false := by
  cases e : hasT l t with
  | false => rfl
  | true =>
    obtain ⟨s, hs, e⟩ := hasT_iff.1 e
    obtain ⟨k, hk, rfl⟩ := List.getElem_of_mem hs
    exact absurd e (h k _ hk (List.getElem?_eq_getElem hk))
theorem insS_len (l : List Sp) (s : Sp) : (insS l s).length = l.length + 1 := by
  have := posT_le s.t l
  simp [insS]; omega
theorem insS_perm (l : List Sp) (s : Sp) : (insS l s).Perm (s :: l) := by
  unfold insS
  refine List.perm_middle.trans ?_
  rw [List.take_append_drop]
theorem addS_len (l : List Sp) (s : Sp) : (addS l s).length ≤ l.length + 1 := by
  unfold addS; split
  · omega
  · rw [insS_len]; exact Nat.le_refl _
theorem addS_new {l : List Sp} {s : Sp} (h : hasT l s.t = false) : addS l s = insS l s := by unfold addS; rw [h]; rfl
theorem addS_old {l : List Sp} {s : Sp} (h : hasT l s.t = true) : addS l s = l := by unfold addS; rw [h]; rfl
theorem insS_up {l : List Sp} {s : Sp} (hu : Up l) (h : hasT l s.t = false) : Up (insS l s) := by
  unfold insS Up
  rw [List.pairwise_append]
  refine ⟨hu.sublist (List.take_sublist _ _), ?_, ?_⟩
  · rw [List.pairwise_cons]
    refine ⟨fun x hx => ?_, hu.sublist (List.drop_sublist _ _)⟩
    obtain ⟨k, hk, rfl⟩ := List.getElem_of_mem hx
    have h1 := List.getElem?_eq_getElem hk
    rw [List.getElem?_drop] at h1
    have h2 := posT_ge hu (Nat.le_add_right _ _) h1
    have h3 := hasT_no h (List.mem_of_getElem? h1)
    omega
  · intro x hx y hy
    obtain ⟨k, hk, rfl⟩ := List.getElem_of_mem hx
    have hk2 : k < posT s.t l := by rw [List.length_take] at hk; omega
    have h1 := List.getElem?_eq_getElem hk
    rw [List.getElem?_take_of_lt hk2] at h1
    have h2 := posT_lt hk2 h1
    rcases List.mem_cons.1 hy with rfl | hy
    · exact h2
    · obtain ⟨i, hi, rfl⟩ := List.getElem_of_mem hy
      have h3 := List.getElem?_eq_getElem hi
      rw [List.getElem?_drop] at h3
      have h4 := posT_ge hu (Nat.le_add_right _ _) h3
      omega
theorem addS_up {l : List Sp} {s : Sp} (hu : Up l) : Up (addS l s) := by
  unfold addS; split
  · exact hu
  · rename_i h
    exact insS_up hu (by simpa using h)
theorem addS_mem {l : List Sp} {s x : Sp} (h : x ∈ addS l s) : x = s ∨ x ∈ l := by
  unfold addS at h; split at h
  · exact .inr h
  · have := (insS_perm l s).mem_iff.1 h
    simpa using this
theorem addS_has {l : List Sp} {s : Sp} : hasT (addS l s) s.t = true := by
  cases h : hasT l s.t with
  | true => rw [addS_old h, h]
  | false => rw [addS_new h]; exact hasT_iff.2 ⟨s, (insS_perm l s).mem_iff.2 (by simp), rfl⟩
theorem up_nil : Up [] := List.Pairwise.nil
/- A time's samples. -/
theorem rng_step {l : List Sp} {k : Nat} {s : Sp} (a b : Int) (h : l[k]? = some s) : rngS (l.take (k + 1)) a b = rngS (l.take k) a b ++ (if inR a b s then [s] else []) := by
  unfold rngS
  rw [List.take_add_one, h, List.filter_append]
  simp [List.filter_cons]
theorem rng_pos (l : List Sp) (a b : Int) : rngS (l.take (posT a l)) a b = [] := by
  unfold rngS
  rw [List.filter_eq_nil_iff]
  intro x hx
  obtain ⟨k, hk, rfl⟩ := List.getElem_of_mem hx
  have hk2 : k < posT a l := by rw [List.length_take] at hk; omega
  have h1 := List.getElem?_eq_getElem hk
  rw [List.getElem?_take_of_lt hk2] at h1
  have h2 := posT_lt hk2 h1
  unfold inR
  simp only [decide_eq_true_eq]
  omega
theorem rng_stop {l : List Sp} (hu : Up l) {k : Nat} {s : Sp} {a b : Int} (h : l[k]? = some s) (hb : b < s.t) : rngS l a b = rngS (l.take k) a b := by
  have e : l = l.take k ++ l.drop k := (List.take_append_drop k l).symm
  have hn : (l.drop k).filter (inR a b) = [] := by
    rw [List.filter_eq_nil_iff]
    intro x hx
    obtain ⟨i, hi, rfl⟩ := List.getElem_of_mem hx
    have h3 := List.getElem?_eq_getElem hi
    rw [List.getElem?_drop] at h3
    have h4 : s.t ≤ ((l.drop k)[i]).t := by
      by_cases e : i = 0
      · subst e; rw [Nat.add_zero, h] at h3; injection h3 with h3; rw [← h3]; exact Int.le_refl _
      · exact Int.le_of_lt (up_lt hu (by omega) h h3)
    unfold inR
    simp only [decide_eq_true_eq]
    omega
  unfold rngS
  conv => lhs; rw [e]
  rw [List.filter_append, hn, List.append_nil]
theorem rng_all {l : List Sp} {a b : Int} (h : ∀ s ∈ l, a ≤ s.t ∧ s.t ≤ b) : rngS l a b = l := by
  unfold rngS
  rw [List.filter_eq_self]
  intro s hs
  simp [inR]; exact h s hs
theorem rng_len (l : List Sp) (a b : Int) : (rngS l a b).length ≤ l.length := List.length_filter_le _ _
theorem rng_up {l : List Sp} (hu : Up l) (a b : Int) : Up (rngS l a b) := hu.sublist List.filter_sublist
theorem rng_mem {l : List Sp} {a b : Int} {s : Sp} : s ∈ rngS l a b ↔ s ∈ l ∧ a ≤ s.t ∧ s.t ≤ b := by simp [rngS, inR]
theorem rng_none {l : List Sp} {a b : Int} (h : b < a) : rngS l a b = [] := by
  unfold rngS
  rw [List.filter_eq_nil_iff]
  intro x hx
  simp [inR]; omega
theorem rng_cut {l : List Sp} (hu : Up l) {a m b : Int} (h1 : a ≤ m) (h2 : m < b) : rngS l a b = rngS l a m ++ rngS l (m + 1) b := by
  induction l with
  | nil => rfl
  | cons x r ih =>
    have hr : Up r := (List.pairwise_cons.1 hu).2
    have hx := (List.pairwise_cons.1 hu).1
    have ih := ih hr
    unfold rngS at ih ⊢
    simp only [List.filter_cons]
    by_cases c1 : a ≤ x.t ∧ x.t ≤ m
    · have e1 : inR a b x = true := by simp [inR]; omega
      have e2 : inR a m x = true := by simp [inR]; omega
      have e3 : inR (m + 1) b x = false := by simp [inR]; omega
      rw [e1, e2, e3, if_pos rfl, if_pos rfl, if_neg (by decide), ih]; rfl
    · by_cases c2 : m < x.t
      · have hn : r.filter (inR a m) = [] := by
          rw [List.filter_eq_nil_iff]; intro y hy; have := hx y hy; simp [inR]; omega
        have e2 : inR a m x = false := by simp [inR]; omega
        have e3 : inR a b x = inR (m + 1) b x := by simp only [inR]; congr 1; apply propext; omega
        rw [ih, hn, e2, e3]; simp
      · have e1 : inR a b x = false := by simp [inR]; omega
        have e2 : inR a m x = false := by simp [inR]; omega
        have e3 : inR (m + 1) b x = false := by simp [inR]; omega
        rw [e1, e2, e3, if_neg (by decide), if_neg (by decide), if_neg (by decide), ih]
/- A run filled. -/
def runL (L : List Sp) : List Sp := L.foldl addS []
theorem runL_snoc (L : List Sp) (s : Sp) : runL (L ++ [s]) = addS (runL L) s := by unfold runL; rw [List.foldl_append]; rfl
theorem take_snoc {α : Type} {L : List α} {k : Nat} {s : α} (h : L[k]? = some s) : L.take (k + 1) = L.take k ++ [s] := by rw [List.take_add_one, h]; rfl
theorem runL_take {L : List Sp} {k : Nat} {s : Sp} (h : L[k]? = some s) : runL (L.take (k + 1)) = addS (runL (L.take k)) s := by rw [take_snoc h, runL_snoc]
theorem fold_len : ∀ (L acc : List Sp), (L.foldl addS acc).length ≤ acc.length + L.length
  | [], acc => by simp
  | s :: r, acc => by
    have h1 := fold_len r (addS acc s)
    have h2 := addS_len acc s
    simp only [List.foldl_cons, List.length_cons]; omega
theorem runL_len (L : List Sp) : (runL L).length ≤ L.length := by have := fold_len L []; simpa [runL] using this
theorem fold_up : ∀ (L acc : List Sp), Up acc → Up (L.foldl addS acc)
  | [], _, h => h
  | s :: r, acc, h => fold_up r (addS acc s) (addS_up h)
theorem runL_up (L : List Sp) : Up (runL L) := fold_up L [] up_nil
theorem fold_mem : ∀ (L acc : List Sp) (x : Sp), x ∈ L.foldl addS acc → x ∈ acc ∨ x ∈ L
  | [], _, _, h => .inl h
  | s :: r, acc, x, h => by
    rcases fold_mem r (addS acc s) x h with h | h
    · rcases addS_mem h with rfl | h
      · exact .inr (by simp)
      · exact .inl h
    · exact .inr (by simp [h])
theorem runL_mem {L : List Sp} {x : Sp} (h : x ∈ runL L) : x ∈ L := by
  rcases fold_mem L [] x h with h | h
  · cases h
  · exact h
theorem up_unique {l m : List Sp} (hl : Up l) (hm : Up m) (hp : l.Perm m) : l = m :=
  List.Perm.eq_of_pairwise (le := fun x y : Sp => x.t < y.t) (fun a b _ _ h1 h2 => by omega) hl hm hp
end Go.Proofs.Ytkjbnanjlcdgjaa
