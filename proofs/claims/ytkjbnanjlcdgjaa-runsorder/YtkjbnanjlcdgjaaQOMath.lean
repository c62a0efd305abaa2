/-
  Adding in another order: the same run.
-/
import Derived.Test.YtkjbnanjlcdgjaaQRMath
namespace Go.Proofs.Ytkjbnanjlcdgjaa
open Go.RowKit

/- The samples that were added, in their order. -/
def onceF (p : List Sp × List Sp) (s : Sp) : List Sp × List Sp := (addS p.1 s, if hasT p.1 s.t then p.2 else p.2 ++ [s])
def onceL (L : List Sp) : List Sp := (L.foldl onceF ([], [])).2
theorem onceF_run : ∀ (L : List Sp) (p : List Sp × List Sp), (L.foldl onceF p).1 = L.foldl addS p.1
  | [], _ => rfl
  | s :: r, p => onceF_run r (onceF p s)
theorem onceL_snoc (L : List Sp) (s : Sp) : onceL (L ++ [s]) = if hasT (runL L) s.t then onceL L else onceL L ++ [s] := by
  unfold onceL runL
  rw [List.foldl_append]
  show (if hasT (L.foldl onceF ([], [])).1 s.t then (L.foldl onceF ([], [])).2 else (L.foldl onceF ([], [])).2 ++ [s]) = _
  rw [onceF_run]
theorem onceL_take {L : List Sp} {k : Nat} {s : Sp} (h : L[k]? = some s) : onceL (L.take (k + 1)) = if hasT (runL (L.take k)) s.t then onceL (L.take k) else onceL (L.take k) ++ [s] := by rw [take_snoc h, onceL_snoc]
theorem once_perm (L : List Sp) : (runL L).Perm (onceL L) := by
  have : ∀ n, ∀ L : List Sp, L.length = n → (runL L).Perm (onceL L) := by
    intro n
    induction n with
    | zero => intro L hL; rw [List.eq_nil_of_length_eq_zero hL]; exact List.Perm.refl _
    | succ n ih =>
      intro L hL
      have hne : L ≠ [] := by intro e; subst e; simp at hL
      have e := List.dropLast_concat_getLast hne
      have hd : L.dropLast.length = n := by rw [List.length_dropLast, hL]; rfl
      have h := ih _ hd
      rw [← e, runL_snoc, onceL_snoc]
      cases hc : hasT (runL L.dropLast) (L.getLast hne).t with
      | true => rw [addS_old hc, if_pos rfl]; exact h
      | false =>
        rw [addS_new hc, if_neg (by decide)]
        exact (insS_perm _ _).trans ((h.cons _).trans (List.perm_append_comm (l₁ := [L.getLast hne])))
  exact this _ L rfl
def Dt (l : List Sp) : Prop := l.Pairwise (fun a b => a.t ≠ b.t)
theorem dt_perm {l m : List Sp} (h : Dt l) (hp : l.Perm m) : Dt m := (hp.pairwise_iff (R := fun a b : Sp => a.t ≠ b.t) (fun h e => h e.symm)).1 h
theorem up_dt {l : List Sp} (h : Up l) : Dt l := h.imp (fun h e => by omega)
theorem dt_free {R : List Sp} (h : Dt R) {i : Nat} {s : Sp} (hs : R[i]? = some s) : hasT (runL (R.take i)) s.t = false := by
  cases hc : hasT (runL (R.take i)) s.t with
  | false => rfl
  | true =>
    obtain ⟨x, hx, e⟩ := hasT_iff.1 hc
    have hm := runL_mem hx
    obtain ⟨j, hj, rfl⟩ := List.getElem_of_mem hm
    have hj2 : j < i := by rw [List.length_take] at hj; omega
    have h1 := List.getElem?_eq_getElem hj
    rw [List.getElem?_take_of_lt hj2] at h1
    obtain ⟨hi', e1⟩ := List.getElem?_eq_some_iff.1 hs
    obtain ⟨hj', e2⟩ := List.getElem?_eq_some_iff.1 h1
    have := List.pairwise_iff_getElem.1 h j i hj' hi' hj2
    rw [e1, e2] at this
    exact absurd e this
theorem dt_run {R : List Sp} (h : Dt R) : ∀ i, i ≤ R.length → (runL (R.take i)).Perm (R.take i)
  | 0, _ => by simp [runL]
  | i + 1, hi => by
    have hs := List.getElem?_eq_getElem (l := R) (i := i) (by omega)
    rw [runL_take hs, addS_new (dt_free h hs), take_snoc hs]
    exact (insS_perm _ _).trans (((dt_run h i (by omega)).cons _).trans (List.perm_append_comm (l₁ := [R[i]])))
def rotL (O : List Sp) (k : Nat) : List Sp := O.drop k ++ O.take k
theorem rotL_perm (O : List Sp) (k : Nat) : (rotL O k).Perm O := by
  unfold rotL
  refine List.perm_append_comm.trans ?_
  rw [List.take_append_drop]
theorem rotL_len (O : List Sp) (k : Nat) : (rotL O k).length = O.length := (rotL_perm O k).length_eq
theorem rotL_get {O : List Sp} {k i : Nat} (hk : k < O.length) (hi : i < O.length) : (rotL O k)[i]? = O[(i + k) % O.length]? := by
  unfold rotL
  by_cases h : i < O.length - k
  · rw [List.getElem?_append_left (by simp; omega), List.getElem?_drop, Nat.mod_eq_of_lt (by omega), Nat.add_comm]
  · rw [List.getElem?_append_right (by simp; omega), List.getElem?_take_of_lt (by simp; omega)]
    congr 1
    have : i + k = (i - (O.drop k).length) + O.length := by simp; omega
    rw [this, Nat.add_mod_right, Nat.mod_eq_of_lt (by simp; omega)]
theorem order_same {L : List Sp} {k : Nat} : runL (rotL (onceL L) k) = runL L := by
  have hd : Dt (rotL (onceL L) k) := dt_perm (dt_perm (up_dt (runL_up L)) (once_perm L)) (rotL_perm _ _).symm
  have h1 := dt_run hd (rotL (onceL L) k).length (Nat.le_refl _)
  rw [List.take_length] at h1
  exact up_unique (runL_up _) (runL_up _) (h1.trans ((rotL_perm _ _).trans (once_perm L).symm))
theorem once_dt (L : List Sp) (k : Nat) : Dt (rotL (onceL L) k) := dt_perm (dt_perm (up_dt (runL_up L)) (once_perm L)) (rotL_perm _ _).symm
theorem once_len (L : List Sp) : (onceL L).length = (runL L).length := (once_perm L).length_eq.symm
end Go.Proofs.Ytkjbnanjlcdgjaa
