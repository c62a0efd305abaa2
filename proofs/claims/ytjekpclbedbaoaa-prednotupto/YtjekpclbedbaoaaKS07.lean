/-
  Two conditions put together as text: how they are read.
  Print's small functions: how many nodes one of a kind names, how tight a condition holds, the words of a comparison and of an aggregate.
  What Cond returns.
  What the reference's sign returns.
  What the reference's number returns of digits.
-/
import Derived.Test.YtjekpclbedbaoaaKS02
import Derived.Test.YtjekpclbedbaoaaKS04
import Derived.Test.YtjekpclbedbaoaaKS06
namespace Go.Proofs.Ytjekpclbedbaoaa.BS
open Go.RowKit Go.Joins

abbrev Sg := Nat × List UInt8 × Int
def Lx (l : List UInt8) (S : List Sg) : Prop := ∀ k, ∃ T, lexA k l = .inr T ∧ T.map sig = S
theorem Lx.of {l : List UInt8} {T : List Tk} (h : lexA 0 l = .inr T) : Lx l (T.map sig) := fun k => lexA_move l.length l 0 k T (Nat.le_refl _) h
theorem Lx.cat {b : UInt8} (hb : Sep b) {x r : List UInt8} {X R : List Sg} (h1 : Lx x X) (h2 : Lx (b :: r) R) : Lx (x ++ b :: r) (X ++ R) := fun k => by
  obtain ⟨T, e1, e2⟩ := h1 k
  obtain ⟨U, e3, e4⟩ := h2 (k + x.length)
  refine ⟨T ++ U, ?_, by rw [List.map_append, e2, e4]⟩
  rw [lexA_sep hb r x.length x k T (Nat.le_refl _) e1, e3]; rfl
theorem Lx.op {r : List UInt8} {R : List Sg} (h : Lx r R) : Lx (40 :: r) ((4, [40], 0) :: R) := fun k => by
  obtain ⟨U, e3, e4⟩ := h (k + 1)
  refine ⟨⟨4, [40], 0, k⟩ :: U, ?_, by rw [List.map_cons, e4]; rfl⟩
  rw [lexA_some k (by decide) (open_first _)]
  have e2 : List.drop 1 (40 :: r) = r := rfl
  rw [e2, e3]
theorem Lx.is {l : List UInt8} {S : List Sg} {T : List Tk} (h : Lx l S) (e : lexA 0 l = .inr T) : T.map sig = S := by
  obtain ⟨U, e1, e2⟩ := h 0
  rw [e] at e1; cases e1; exact e2
theorem sep40 : Sep 40 := by unfold Sep; decide
theorem sep41 : Sep 41 := by unfold Sep; decide
abbrev sO : Sg := (4, [40], 0)
abbrev sC : Sg := (4, [41], 0)
theorem lx_shut : Lx [41] [sC] := Lx.of (T := [⟨4, [41], 0, 0⟩]) (by decide +kernel)
theorem lx_shut2 : Lx [41, 41] [sC, sC] := Lx.of (T := [⟨4, [41], 0, 0⟩, ⟨4, [41], 0, 1⟩]) (by decide +kernel)
theorem lx_and : Lx [41, 32, 97, 110, 100, 32] [sC, (1, wAnd, 0)] := Lx.of (T := [⟨4, [41], 0, 0⟩, ⟨1, [97, 110, 100], 0, 2⟩]) (by decide +kernel)
theorem lx_or : Lx [41, 32, 111, 114, 32] [sC, (1, wOr, 0)] := Lx.of (T := [⟨4, [41], 0, 0⟩, ⟨1, [111, 114], 0, 2⟩]) (by decide +kernel)
theorem lx_orn : Lx [41, 32, 111, 114, 32, 110, 111, 116, 32] [sC, (1, wOr, 0), (1, wNot, 0)] := Lx.of (T := [⟨4, [41], 0, 0⟩, ⟨1, [111, 114], 0, 2⟩, ⟨1, [110, 111, 116], 0, 5⟩]) (by decide +kernel)
theorem lx_not : Lx [110, 111, 116, 32] [(1, wNot, 0)] := Lx.of (T := [⟨1, [110, 111, 116], 0, 0⟩]) (by decide +kernel)
theorem lx_not3 : Lx [110, 111, 116, 32, 110, 111, 116, 32, 110, 111, 116, 32] [(1, wNot, 0), (1, wNot, 0), (1, wNot, 0)] := Lx.of (T := [⟨1, [110, 111, 116], 0, 0⟩, ⟨1, [110, 111, 116], 0, 4⟩, ⟨1, [110, 111, 116], 0, 8⟩]) (by decide +kernel)
/- The texts. -/
def sideT (o s u : List UInt8) : List UInt8 := 40 :: (s ++ (o ++ 40 :: (u ++ [41])))
def morA (s u : List UInt8) : List UInt8 := [110, 111, 116, 32] ++ 40 :: (s ++ ([41, 32, 111, 114, 32, 110, 111, 116, 32] ++ 40 :: (u ++ [41])))
def morB (s u : List UInt8) : List UInt8 := [110, 111, 116, 32, 110, 111, 116, 32, 110, 111, 116, 32] ++ 40 :: 40 :: (s ++ ([41, 32, 97, 110, 100, 32] ++ 40 :: (u ++ [41, 41])))
def sideS (w : List UInt8) (S U : List Sg) : List Sg := [sO] ++ (S ++ sC :: ((1, w, 0) :: sO :: (U ++ [sC])))
def morSA (S U : List Sg) : List Sg := [(1, wNot, 0), sO] ++ (S ++ sC :: ((1, wOr, 0) :: (1, wNot, 0) :: sO :: (U ++ [sC])))
def morSB (S U : List Sg) : List Sg := [(1, wNot, 0), (1, wNot, 0), (1, wNot, 0), sO, sO] ++ (S ++ sC :: ((1, wAnd, 0) :: sO :: (U ++ [sC, sC])))
theorem side_lx {s u : List UInt8} {S U : List Sg} (hs : Lx s S) (hu : Lx u U) : Lx (sideT [41, 32, 97, 110, 100, 32] s u) (sideS wAnd S U) ∧ Lx (sideT [41, 32, 111, 114, 32] s u) (sideS wOr S U) := by
  have h1 := Lx.op (Lx.cat sep41 hu lx_shut)
  have h2 : Lx (41 :: ([32, 97, 110, 100, 32] ++ 40 :: (u ++ [41]))) (sC :: (1, wAnd, 0) :: sO :: (U ++ [sC])) := Lx.cat sep40 lx_and h1
  have h3 : Lx (41 :: ([32, 111, 114, 32] ++ 40 :: (u ++ [41]))) (sC :: (1, wOr, 0) :: sO :: (U ++ [sC])) := Lx.cat sep40 lx_or h1
  have h4 := Lx.op (Lx.cat sep41 hs h2)
  have h5 := Lx.op (Lx.cat sep41 hs h3)
  exact ⟨h4, h5⟩
theorem morA_lx {s u : List UInt8} {S U : List Sg} (hs : Lx s S) (hu : Lx u U) : Lx (morA s u) (morSA S U) := by
  have h1 := Lx.op (Lx.cat sep41 hu lx_shut)
  have h2 : Lx (41 :: ([32, 111, 114, 32, 110, 111, 116, 32] ++ 40 :: (u ++ [41]))) (sC :: (1, wOr, 0) :: (1, wNot, 0) :: sO :: (U ++ [sC])) := Lx.cat sep40 lx_orn h1
  have h4 := Lx.op (Lx.cat sep41 hs h2)
  have h5 := Lx.cat sep40 lx_not h4
  exact h5
theorem morB_lx {s u : List UInt8} {S U : List Sg} (hs : Lx s S) (hu : Lx u U) : Lx (morB s u) (morSB S U) := by
  have h1 := Lx.op (Lx.cat sep41 hu lx_shut2)
  have h2 : Lx (41 :: ([32, 97, 110, 100, 32] ++ 40 :: (u ++ [41, 41]))) (sC :: (1, wAnd, 0) :: sO :: (U ++ [sC, sC])) := Lx.cat sep40 lx_and h1
  have h4 := Lx.op (Lx.op (Lx.cat sep41 hs h2))
  have h5 := Lx.cat sep40 lx_not3 h4
  exact h5

/- The tokens. -/
theorem sig_at {T : List Tk} {P : List Sg} (h : T.map sig = P) {i : Nat} {x : Sg} (hx : P[i]? = some x) : ∃ t, T[i]? = some t ∧ sig t = x := by
  subst h
  rw [List.getElem?_map] at hx
  cases e : T[i]? with
  | none => rw [e] at hx; cases hx
  | some t => rw [e] at hx; cases hx; exact ⟨t, rfl, rfl⟩
theorem sig_W {T : List Tk} {P : List Sg} (h : T.map sig = P) {i k : Nat} {w : List UInt8} (hk : k = 1 ∨ k = 4) (hx : P[i]? = some (k, w, 0)) : isW (T.map tp) i w = true := by
  obtain ⟨t, e1, e2⟩ := sig_at h hx
  unfold isW
  rw [List.getElem?_map, e1]
  have e3 : t.kind = k := congrArg Prod.fst e2
  have e4 : t.s = w := congrArg (fun x => x.2.1) e2
  simp [tp, e3, e4]
  omega
theorem sig_rg {T M : List Tk} {P R : List Sg} {d : Nat} (h : T.map sig = P ++ (M.map sig ++ sC :: R)) (hd : P.length = d) : Rg d (M.map tp) (T.map tp) := by
  subst hd
  refine ⟨fun i hi => ?_, ?_⟩
  · have hi : i < M.length := by simpa using hi
    have e : (P ++ (M.map sig ++ sC :: R))[i + P.length]? = some (sig M[i]) := by
      rw [List.getElem?_append_right (by omega), List.getElem?_append_left (by first | (simp; done) | (simp; omega))]
      simp [hi]
    obtain ⟨t, e1, e2⟩ := sig_at h e
    refine ⟨tp M[i], tp t, by rw [List.getElem?_map, List.getElem?_eq_getElem hi]; rfl, by rw [List.getElem?_map, e1]; rfl, ?_, ?_, ?_⟩
    · have := congrArg Prod.fst e2; simp only [sig] at this; simp [tp, this]
    · have := congrArg (fun x => x.2.1) e2; simp only [sig] at this; simp [tp, this]
    · have := congrArg (fun x => x.2.2) e2; simp only [sig] at this; simp [tp, this]
  · have e : (P ++ (M.map sig ++ sC :: R))[M.length + P.length]? = some sC := by
      rw [List.getElem?_append_right (by omega), List.getElem?_append_right (by simp)]
      simp
    obtain ⟨t, e1, e2⟩ := sig_at h e
    refine ⟨tp t, by rw [List.length_map, List.getElem?_map, e1]; rfl, ?_, ?_⟩
    · have := congrArg Prod.fst e2; simp only [sig] at this; simp [tp, this]
    · have := congrArg (fun x => x.2.1) e2; simp only [sig] at this; simp [tp, this, wShut]
theorem at_1 {P Q : List Sg} {i : Nat} {x : Sg} (R : List Sg) (h : i = P.length + Q.length) (j : Nat) (hj : R[j]? = some x) : (P ++ (Q ++ R))[i + j]? = some x := by
  rw [List.getElem?_append_right (by omega), List.getElem?_append_right (by omega), show i + j - P.length - Q.length = j by omega]; exact hj
theorem at_2 {P Q R : List Sg} {i : Nat} {x : Sg} (U : List Sg) (h : i = P.length + Q.length + R.length) (j : Nat) (hj : U[j]? = some x) : (P ++ (Q ++ (R ++ U)))[i + j]? = some x := by
  rw [List.getElem?_append_right (by omega), List.getElem?_append_right (by omega), List.getElem?_append_right (by omega), show i + j - P.length - Q.length - R.length = j by omega]; exact hj
section
variable {tv : List Np → Nat → Bool} (hJ : Jd tv) {M N T : List Tk} {b c : Bool} (hs : Ok1 tv (condS (M.map tp) 16) 0 M.length b) (hu : Ok1 tv (condS (N.map tp) 16) 0 N.length c)
include hJ hs hu
theorem side_val {w : List UInt8} (hw : w = wAnd ∨ w = wOr) (hT : T.map sig = sideS w (M.map sig) (N.map sig)) : Val tv (condS (T.map tp) 16) 0 (if w = wAnd then b && c else b || c) T.length := by
  have hl : T.length = M.length + N.length + 5 := by have := congrArg List.length hT; simp [sideS] at this; omega
  have hs' : Ok1 tv (condS (M.map tp) 16) 0 (M.map tp).length b := by rw [List.length_map]; exact hs
  have hu' : Ok1 tv (condS (N.map tp) 16) 0 (N.map tp).length c := by rw [List.length_map]; exact hu
  have r1 : Rg 1 (M.map tp) (T.map tp) := sig_rg hT rfl
  have r2 : Rg (M.length + 4) (N.map tp) (T.map tp) := sig_rg (P := [sO] ++ (M.map sig ++ [sC, (1, w, 0), sO])) (R := []) (by rw [hT]; simp [sideS]) (by first | (simp; done) | (simp; omega))
  have o1 : isW (T.map tp) 0 wOpen = true := sig_W hT (.inr rfl) rfl
  have o2 : isW (T.map tp) (M.length + 2) w = true := sig_W hT (.inl rfl) (at_1 (i := M.length + 1) _ (by first | (simp; done) | (simp; omega)) 1 rfl)
  have o3 : isW (T.map tp) (M.length + 3) wOpen = true := sig_W hT (.inr rfl) (at_1 (i := M.length + 1) _ (by first | (simp; done) | (simp; omega)) 2 rfl)
  have n1 : isW (T.map tp) T.length wAnd = false := none_W (by simp) _
  have n2 : isW (T.map tp) T.length wOr = false := none_W (by simp) _
  have v1 := paren (d := 15) (Nat.le_refl _) r1 hs' o1
  have v2 := paren (i := M.length + 3) (d := 15) (Nat.le_refl _) r2 hu' o3
  rw [List.length_map, Nat.zero_add] at v1
  rw [List.length_map, show M.length + 3 + N.length + 2 = T.length by omega] at v2
  rcases hw with h | h
  · subst h
    rw [if_pos rfl]
    exact and2 hJ v1 o2 v2 n1 n2
  · subst h
    rw [if_neg (by decide)]
    exact or2 hJ v1 o2 v2 n1 n2
theorem morA_val (hT : T.map sig = morSA (M.map sig) (N.map sig)) : Val tv (condS (T.map tp) 16) 0 (!b || !c) T.length := by
  have hl : T.length = M.length + N.length + 7 := by have := congrArg List.length hT; simp [morSA] at this; omega
  have hs' : Ok1 tv (condS (M.map tp) 16) 0 (M.map tp).length b := by rw [List.length_map]; exact hs
  have hu' : Ok1 tv (condS (N.map tp) 16) 0 (N.map tp).length c := by rw [List.length_map]; exact hu
  have r1 : Rg 2 (M.map tp) (T.map tp) := sig_rg hT rfl
  have r2 : Rg (M.length + 6) (N.map tp) (T.map tp) := sig_rg (P := [(1, wNot, 0), sO] ++ (M.map sig ++ [sC, (1, wOr, 0), (1, wNot, 0), sO])) (R := []) (by rw [hT]; simp [morSA]) (by first | (simp; done) | (simp; omega))
  have o0 : isW (T.map tp) 0 wNot = true := sig_W hT (.inl rfl) rfl
  have o1 : isW (T.map tp) 1 wOpen = true := sig_W hT (.inr rfl) rfl
  have o2 : isW (T.map tp) (M.length + 3) wOr = true := sig_W hT (.inl rfl) (at_1 (i := M.length + 2) _ (by first | (simp; done) | (simp; omega)) 1 rfl)
  have o3 : isW (T.map tp) (M.length + 4) wNot = true := sig_W hT (.inl rfl) (at_1 (i := M.length + 2) _ (by first | (simp; done) | (simp; omega)) 2 rfl)
  have o4 : isW (T.map tp) (M.length + 5) wOpen = true := sig_W hT (.inr rfl) (at_1 (i := M.length + 2) _ (by first | (simp; done) | (simp; omega)) 3 rfl)
  have n1 : isW (T.map tp) T.length wAnd = false := none_W (by simp) _
  have n2 : isW (T.map tp) T.length wOr = false := none_W (by simp) _
  have v1 := notV hJ (paren (i := 1) (d := 14) (by omega) r1 hs' o1) o0
  have v2 := notV hJ (i := M.length + 4) (paren (i := M.length + 5) (d := 14) (by omega) r2 hu' o4) o3
  rw [List.length_map, show 1 + M.length + 2 = M.length + 3 by omega] at v1
  rw [List.length_map, show M.length + 5 + N.length + 2 = T.length by omega] at v2
  exact or2 hJ v1 o2 v2 n1 n2
theorem morB_val (hT : T.map sig = morSB (M.map sig) (N.map sig)) : Val tv (condS (T.map tp) 16) 0 (!b || !c) T.length := by
  have hl : T.length = M.length + N.length + 10 := by have := congrArg List.length hT; simp [morSB] at this; omega
  have hs' : Ok1 tv (condS (M.map tp) 16) 0 (M.map tp).length b := by rw [List.length_map]; exact hs
  have hu' : Ok1 tv (condS (N.map tp) 16) 0 (N.map tp).length c := by rw [List.length_map]; exact hu
  have r1 : Rg 5 (M.map tp) (T.map tp) := sig_rg hT rfl
  have hT2 : T.map sig = ([(1, wNot, 0), (1, wNot, 0), (1, wNot, 0), sO, sO] ++ (M.map sig ++ [sC, (1, wAnd, 0), sO])) ++ (N.map sig ++ sC :: [sC]) := by rw [hT]; simp [morSB]
  have r2 : Rg (M.length + 8) (N.map tp) (T.map tp) := sig_rg hT2 (by first | (simp; done) | (simp; omega))
  have o0 : isW (T.map tp) 0 wNot = true := sig_W hT (.inl rfl) rfl
  have o1 : isW (T.map tp) 1 wNot = true := sig_W hT (.inl rfl) rfl
  have o2 : isW (T.map tp) 2 wNot = true := sig_W hT (.inl rfl) rfl
  have o3 : isW (T.map tp) 3 wOpen = true := sig_W hT (.inr rfl) rfl
  have o4 : isW (T.map tp) 4 wOpen = true := sig_W hT (.inr rfl) rfl
  have o5 : isW (T.map tp) (M.length + 6) wAnd = true := sig_W hT (.inl rfl) (at_1 (i := M.length + 5) _ (by first | (simp; done) | (simp; omega)) 1 rfl)
  have o6 : isW (T.map tp) (M.length + 7) wOpen = true := sig_W hT (.inr rfl) (at_1 (i := M.length + 5) _ (by first | (simp; done) | (simp; omega)) 2 rfl)
  have o7 : isW (T.map tp) (M.length + N.length + 9) wShut = true := sig_W hT2 (.inr rfl) (by
    have := at_1 (P := [(1, wNot, 0), (1, wNot, 0), (1, wNot, 0), sO, sO] ++ (M.map sig ++ [sC, (1, wAnd, 0), sO])) (Q := N.map sig) (i := M.length + N.length + 8) [sC, sC] (by first | (simp; done) | (simp; omega)) 1 rfl
    exact this)
  have n1 : isW (T.map tp) T.length wAnd = false := none_W (by simp) _
  have n2 : isW (T.map tp) T.length wOr = false := none_W (by simp) _
  have v1 := paren (i := 4) (d := 11) (by omega) r1 hs' o4
  have v2 := paren (i := M.length + 7) (d := 11) (by omega) r2 hu' o6
  rw [List.length_map, show 4 + M.length + 2 = M.length + 6 by omega] at v1
  rw [List.length_map, show M.length + 7 + N.length + 2 = M.length + N.length + 9 by omega] at v2
  have v3 := paren' (i := 3) (and2 hJ v1 o5 v2 (isW_s o7 (by decide)) (isW_s o7 (by decide))) o3
  have v4 := notV hJ (i := 0) (notV hJ (i := 1) (notV hJ (i := 2) v3 o2) o1) o0
  rw [show M.length + N.length + 9 + 1 = T.length by omega] at v4
  have v5 := one1 v4 n1 n2
  rwa [show (!!!(b && c)) = (!b || !c) by cases b <;> cases c <;> rfl] at v5
end
theorem alone_ok {tv : List Np → Nat → Bool} (hJ : Jd tv) {M : List Tk} (h : (wholeS (M.map tp) (condS (M.map tp) 16)).2.2 = 0) : ∃ b, Ok1 tv (condS (M.map tp) 16) 0 M.length b := by
  obtain ⟨r, j, e1, e2, -⟩ := whole_ok (fun i c h => cond_bd _ 16 0 [] i c h) h
  have hg := cond_go (M.map tp) 16 _ _ _ _ e1
  have : j = M.length := by have h1 := hg.2.1; rw [List.length_map] at h1 e2; omega
  subst this
  exact cond_u hJ _ 16 _ _ _ _ e1
theorem cond_val {tv : List Np → Nat → Bool} {M : List Tk} {b : Bool} (h : (wholeS (M.map tp) (condS (M.map tp) 16)).2.2 = 0) (hv : Val tv (condS (M.map tp) 16) 0 b M.length) : tv (wholeS (M.map tp) (condS (M.map tp) 16)).1 ((wholeS (M.map tp) (condS (M.map tp) 16)).1.length - 1) = b ∧ 0 < (wholeS (M.map tp) (condS (M.map tp) 16)).1.length := by
  obtain ⟨r, j, e1, e2, e3⟩ := whole_ok (fun i c h => cond_bd _ 16 0 [] i c h) h
  obtain ⟨new, a1, -, a2⟩ := cond_t (M.map tp) 16 _ _ _ _ e1
  rw [e3, show r.2.length - 1 = r.1 by omega]
  exact ⟨(hv _ _ _ e1).2, by omega⟩
end Go.Proofs.Ytjekpclbedbaoaa.BS
namespace Go.Proofs.Ytjekpclbedbaoaa
open Go.RowKit Go.Joins

/- The tables of words lie where the program's text lays them. -/
def howL : List (List UInt8) := [] :: howW
def aggL : List (List UInt8) := [] :: aggW
def kindL : List (List UInt8) := [[], []] ++ stepW ++ [[], [], wAnd, wOr]
def belowN (k : Int) : Int :=
  if k = 1 ∨ k = 14 ∨ k = 15 then 0 else if k = 3 ∨ k = 4 ∨ k = 5 ∨ k = 6 ∨ k = 13 then 1 else if k = 2 ∨ k = 7 ∨ k = 8 ∨ k = 11 ∨ k = 12 then 2 else -1
def bindsN (k : Int) : Int := if k = 12 then 1 else if k = 11 then 2 else 3
def wordL (t : List (List UInt8)) (k : Int) : List UInt8 := if 0 ≤ k ∧ k < 7 then t.getD k.toNat [] else []
end Go.Proofs.Ytjekpclbedbaoaa
namespace Go.Proofs.Ytjekpclbedbaoaa
open Go.RowKit Go.Joins

section
variable {ts : List Tp} {w : World} {tv : Value}
end
end Go.Proofs.Ytjekpclbedbaoaa
namespace Go.Proofs.Ytjekpclbedbaoaa
open Go.RowKit Go.Joins
def sgnOf (l : List UInt8) : List UInt8 := match signS l with | some (t, _) => t.s | none => []
abbrev twoC : Array Value := #[.string ⟨#[33, 61]⟩, .string ⟨#[60, 61]⟩, .string ⟨#[62, 61]⟩]
theorem twoC_at (i : Nat) (h : i < 3) : twoC[i]? = some (.string (St (signsL.getD i []))) := by
  match i, h with
  | 0, _ => rfl
  | 1, _ => rfl
  | 2, _ => rfl
theorem two_cell (w : World) (i : Nat) (h : i < 3) : (w.alloc (.cells twoC 9)).cell? ⟨w.heap.size, i, none⟩ = some (.string (St (signsL.getD i []))) := by
  rw [block_cell (alloc_block w _) i, twoC_at i h]
def oneL : List UInt8 := [124, 44, 40, 41, 58, 61, 60, 62]
theorem one_idx (i : Nat) (h : i < 8) (w : World) : (Instr.index 9 (.string ⟨#[124, 44, 40, 41, 58, 61, 60, 62]⟩) (.int .i64 (i : Int))).run Try.prog w = .ok (.int .u8 ((oneL.getD i 0).toNat : Int)) w := by
  have := idx oneL i h w
  rw [List.getD_eq_getElem?_getD, List.getElem?_eq_getElem (show i < oneL.length from h)]
  exact this
theorem one_is (i : Nat) (h : i < 8) : signsL.getD (3 + i) [] = [oneL.getD i 0] := by
  match i, h with
  | 0, _ => rfl
  | 1, _ => rfl
  | 2, _ => rfl
  | 3, _ => rfl
  | 4, _ => rfl
  | 5, _ => rfl
  | 6, _ => rfl
  | 7, _ => rfl
theorem two_len (i : Nat) (h : i < 3) : (signsL.getD i []).length = 2 := by
  match i, h with
  | 0, _ => rfl
  | 1, _ => rfl
  | 2, _ => rfl
theorem sgnOf_yes {l x : List UInt8} {n : Nat} (h : signS l = some (⟨4, x, 0, 0⟩, n)) : sgnOf l = x := by unfold sgnOf; rw [h]
theorem sgnOf_no {l : List UInt8} (h : signS l = none) : sgnOf l = [] := by unfold sgnOf; rw [h]
theorem below_a {w w' : World} {o : Obj} (h : Below (w.alloc o).heap.size (w.alloc o) w') : Below w.heap.size w w' := ((Below.refl _ w).alloc (Nat.le_refl _) o).trans (h.mono (by simp))
theorem pre_one {c d : UInt8} {r : List UInt8} : [d].isPrefixOf (c :: r) = (d == c) := by simp [List.isPrefixOf]
set_option maxRecDepth 100000 in
set_option maxHeartbeats 1000000 in
theorem rsign_any (l : List UInt8) (hl : (l.length : Int) ≤ 140737488355328) (h1 : 0 < l.length) (w : World) : Calls Try.prog 53 #[.string (St l)] w fun e w' => e = .returned (.string (St (sgnOf l))) ∧ Below w.heap.size w w' := by
  have hsz := St_size l
  have h1I : 0 < (l.length : Int) := by omega
  have HC := hid (two_cell w)
  go_enter Try.func53, Try.ntmps53
  go_wp2_with fail
  go_loopw [4] (fun i wr => ∃ k : Nat, (k : Int) ≤ 3 ∧ i = .int .i64 k ∧ Hid (∀ i, i < k → (signsL.getD i []).isPrefixOf l = false) ∧ Hid (Below (w.alloc (.cells twoC 9)).heap.size (w.alloc (.cells twoC 9)) wr)) (fun i _ => 3 - (intOf i).toNat)
  case atStart => exact ⟨0, by omega, rfl, fun i hi => by omega, Below.refl _ _⟩
  case round =>
    obtain ⟨k, hk, rfl, HA, HB⟩ := hrel
    by_cases hlt : k < 3
    · have hkI : (k : Int) < 3 := by omega
      have hcell : wr.cell? ⟨w.heap.size, k, none⟩ = some (.string (St (signsL.getD k []))) := (HB.out.cell (p := ⟨w.heap.size, k, none⟩) (by simp)).trans (HC.out k hlt)
      have hpi := pre_is l (signsL.getD k [])
      have hx2 := two_len k hlt
      rw [hx2] at hpi
      have HY := hid (@sign_yes l k (by omega) HA.out)
      have HPI := hid hpi
      clear hpi
      generalize hx : signsL.getD k [] = x at *
      have HX := hid hx
      clear hx
      by_cases h2 : 2 ≤ l.length
      · have h2I : (2 : Int) ≤ l.length := by omega
        have hs := slT l 2 h2
        simp only [show ((2 : Nat) : Int) = 2 from rfl] at hs
        have he := St_eq (l.take 2) x
        cases hc : (l.take 2 == x) with
        | true =>
          have hp : x.isPrefixOf l = true := by rw [HPI.out, hc]; simp [h2]
          have HZ := hid (HY.out hp)
          rw [hc] at he
          clear HY hc hp
          go_upto_region 5 with fail
          go_quiet (fail)
          go_wp2_with fail
          go_ret
          exact ⟨by rw [sgnOf_yes HZ.out]; rfl, below_drewN (below_a HB.out) _⟩
        | false =>
          have HNP := hid (show x.isPrefixOf l = false by rw [HPI.out, hc]; simp)
          rw [hc] at he
          clear HY hc
          go_upto_region 5 with fail
          go_quiet (fail)
          go_wp2_with fail
          go_roundw
          case rel =>
            refine ⟨k + 1, by omega, by go_num, ?_, below_drewN HB.out _⟩
            intro i hi
            rcases Nat.lt_or_ge i k with h | h
            · exact HA.out i h
            · obtain rfl : i = k := by omega
              rw [HX.out]; exact HNP.out
          case measure => simp [intOf]; omega
      · have HNP := hid (show x.isPrefixOf l = false by rw [HPI.out]; simp [h2])
        have h2I : ¬ (2 : Int) ≤ l.length := by omega
        clear HY
        go_upto_region 5 with fail
        go_quiet (fail)
        go_wp2_with fail
        go_roundw
        case rel =>
          refine ⟨k + 1, by omega, by go_num, ?_, below_drewN HB.out _⟩
          intro i hi
          rcases Nat.lt_or_ge i k with h | h
          · exact HA.out i h
          · obtain rfl : i = k := by omega
            rw [HX.out]; exact HNP.out
        case measure => simp [intOf]; omega
    · have hk3 : k = 3 := by omega
      subst hk3
      have hsz8 : (⟨#[124, 44, 40, 41, 58, 61, 60, 62]⟩ : ByteArray).size = 8 := rfl
      have hi0 := idx l 0 h1
      simp only [Int.natCast_zero] at hi0
      have hs := slT l 1 (by omega)
      simp only [show ((1 : Nat) : Int) = 1 from rfl] at hs
      obtain ⟨c, r, hcr⟩ : ∃ c r, l = c :: r := by
        cases l with
        | nil => simp at h1
        | cons c r => exact ⟨c, r, rfl⟩
      have HCR := hid hcr
      have HC0 := hid (show l[0] = c by subst hcr; rfl)
      rw [HC0.out] at hi0
      have HT1 := hid (show l.take 1 = [c] by subst hcr; rfl)
      rw [HT1.out] at hs
      clear hcr
      go_wp2_with fail
      go_loopw [6] (fun i wx => ∃ q : Nat, (q : Int) ≤ 8 ∧ i = .int .i64 q ∧ Hid (∀ i, i < 3 + q → (signsL.getD i []).isPrefixOf l = false) ∧ Hid (Below w.heap.size w wx)) (fun i _ => 8 - (intOf i).toNat)
      case atStart => exact ⟨0, by omega, rfl, HA.out, below_a HB.out⟩
      case round =>
        obtain ⟨q, hq, rfl, HA2, HB2⟩ := hrel
        by_cases hlt2 : q < 8
        · have hqI : (q : Int) < 8 := by omega
          have hio := one_idx q hlt2
          have HY := hid (@sign_yes l (3 + q) (by omega) HA2.out)
          rw [one_is q hlt2] at HY
          have HX := hid (one_is q hlt2)
          generalize oneL.getD q 0 = d at *
          by_cases hcd : c = d
          · subst hcd
            have HZ := hid (HY.out (by rw [HCR.out, pre_one]; simp))
            have hcc : ((c.toNat : Int) == (c.toNat : Int)) = true := by simp
            clear HY
            go_upto_region 11 with fail
            go_quiet (fail)
            go_wp2_with fail
            go_ret
            exact ⟨by rw [sgnOf_yes HZ.out]; rfl, below_drewN HB2.out _⟩
          · have hcc : ¬ (c.toNat : Int) = (d.toNat : Int) := fun e => hcd (UInt8.toNat_inj.1 (by omega))
            have HNP := hid (show [d].isPrefixOf l = false by rw [HCR.out, pre_one]; simp; exact fun e => hcd e.symm)
            clear HY
            go_upto_region 11 with fail
            go_quiet (fail)
            go_wp2_with fail
            go_roundw
            case rel =>
              refine ⟨q + 1, by omega, by go_num, ?_, below_drewN HB2.out _⟩
              intro i hi
              rcases Nat.lt_or_ge i (3 + q) with h | h
              · exact HA2.out i h
              · obtain rfl : i = 3 + q := by omega
                rw [HX.out]; exact HNP.out
            case measure => simp [intOf]; omega
        · have hq8 : q = 8 := by omega
          subst hq8
          have HZ := hid (sgnOf_no (sign_no (l := l) (fun i hi => HA2.out i hi)))
          go_wp2_with fail
          go_ret
          exact ⟨by rw [HZ.out]; rfl, HB2.out⟩
end Go.Proofs.Ytjekpclbedbaoaa
namespace Go.Proofs.Ytjekpclbedbaoaa
open Go.RowKit Go.Joins
/-- What is read: the number, and whether it is one. -/
def RNumP (ng : Bool) (v : Nat) (w : World) (e : Ending) (w' : World) : Prop :=
  (∃ x : Int, e = .returned (.tuple #[.int .i64 x, .bool (numV ng v).isSome]) ∧ ∀ y, numV ng v = some y → x = y) ∧ w' = w
theorem dval_step (ds : List UInt8) (k : Nat) (h : k < ds.length) : dval (ds.take (k + 1)) = dstep (dval (ds.take k)) ds[k] := by
  unfold dval
  rw [List.take_succ_eq_append_getElem h, dvalF_append, dvalF_cons, dvalF_nil]
theorem dval_le (ds : List UInt8) (k : Nat) : dval (ds.take k) ≤ dval ds := by
  have h : ds.take k ++ ds.drop k = ds := List.take_append_drop k ds
  unfold dval
  conv => rhs; rw [← h, dvalF_append]
  exact dvalF_acc _ _
theorem tdiv_is (d : Nat) (hd : d ≤ 9) : (-9223372036854775808 + (d : Int)).tdiv 10 = -(((9223372036854775808 - d) / 10 : Nat) : Int) := by
  have h2 := Int.neg_tdiv (9223372036854775808 - (d : Int)) 10
  have h3 := Int.tdiv_eq_ediv_of_nonneg (a := 9223372036854775808 - (d : Int)) (b := 10) (by omega)
  have h4 : -(9223372036854775808 - (d : Int)) = -9223372036854775808 + (d : Int) := by omega
  rw [h4] at h2
  rw [h2, h3]
  omega
theorem numV_no (ng : Bool) (v : Nat) (h : 9223372036854775808 < v) : numV ng v = none := by
  cases ng
  · exact numV_fn v (by omega)
  · exact numV_tn v (by omega)
set_option maxRecDepth 100000 in
set_option maxHeartbeats 1000000 in
theorem rnum_t (ds : List UInt8) (hd : ∀ x ∈ ds, isDg x = true) (hne : 0 < ds.length) (hl : (ds.length : Int) ≤ 140737488355328) (w : World) : Calls Try.prog 52 #[.string (St (45 :: ds))] w (RNumP true (dval ds) w) := by
  have hsd := St_size ds
  have hneI : 0 < (ds.length : Int) := by omega
  have HD := hid hd
  clear hd
  have HV := hid (dval_le ds)
  have HE := hid (show dval (ds.take ds.length) = dval ds by rw [List.take_length])
  have HN := hid (numV_no true (dval ds))
  have HSt := hid (dval_step ds)
  generalize dval ds = v at *
  have hi0 := idx (45 :: ds) 0 (by simp)
  simp only [Int.natCast_zero, List.getElem_cons_zero, show (UInt8.toNat 45) = 45 from rfl] at hi0
  have hsl := slF (45 :: ds) 1 (by simp)
  simp only [List.drop_succ_cons, List.drop_zero, show ((1 : Nat) : Int) = 1 from rfl] at hsl
  have hs45 := St_size (45 :: ds)
  have h45l : (45 :: ds).length = ds.length + 1 := rfl
  rw [h45l] at hs45
  go_enter Try.func52, Try.ntmps52
  go_wp2_with fail
  go_loopw [4, 6] (fun n i wr => ∃ (k u : Nat), (k : Int) ≤ ds.length ∧ i = .int .i64 k ∧ n = .int .i64 (-(u : Int)) ∧ Hid (u = dval (ds.take k)) ∧ Hid (u ≤ 9223372036854775808) ∧ w = wr) (fun _ i _ => ds.length - (intOf i).toNat)
  case atStart => exact ⟨0, 0, by omega, rfl, rfl, by show _ = _; rfl, by show _ ≤ _; omega, rfl⟩
  case round =>
    obtain ⟨k, u, hk, rfl, rfl, HU, HLe, hw⟩ := hrel
    subst hw
    by_cases hlt : k < ds.length
    · have hi := idx ds k hlt
      have hkI : (k : Int) < ds.length := by omega
      have hcd := HD.out ds[k] (List.getElem_mem _)
      have hst := HSt.out k hlt
      generalize ds[k] = c at *
      simp [isDg] at hcd
      obtain ⟨d, hd⟩ : ∃ d : Nat, c.toNat = 48 + d := ⟨c.toNat - 48, by omega⟩
      have hd9 : d ≤ 9 := by omega
      have hst2 : dval (ds.take (k + 1)) = u * 10 + d := by rw [hst, ← HU.out]; unfold dstep; omega
      have HST := hid hst2
      have hdI : (c.toNat : Int) = 48 + (d : Int) := by omega
      have htd := tdiv_is d hd9
      obtain ⟨m, hm⟩ : ∃ m : Nat, (9223372036854775808 - d) / 10 = m := ⟨_, rfl⟩
      rw [hm] at htd
      have HM := hid hm
      have hd9I : (d : Int) ≤ 9 := by omega
      have hmod : (d : Int) % 256 = d := by omega
      have hdd : (48 : Int) + (d : Int) - 48 = d := by omega
      have hULe := HLe.out
      have hmle : (m : Int) ≤ 922337203685477580 := by omega
      clear hcd hst hst2 hm hd9 hd
      by_cases hov : m < u
      · have hovI : -(u : Int) < -(m : Int) := by omega
        have HNo := hid (HN.out (by have h1 := HV.out (k + 1); rw [HST.out] at h1; have := HM.out; omega))
        have hovI2 : (m : Int) < u := by omega
        clear hULe
        go_wp2_with fail
        refine bodyPost_ret (v := .tuple #[.int .i64 0, .bool false]) (by simp [results, Try.results52, go_sem]) rfl ⟨⟨0, ?_, ?_⟩, rfl⟩
        · rw [HNo.out]; rfl
        · intro y hy; rw [HNo.out] at hy; cases hy
      · have hovI : ¬ -(u : Int) < -(m : Int) := by omega
        have hovI2 : ¬ (m : Int) < u := by omega
        have hb1 : (u : Int) * 10 + d ≤ 9223372036854775808 := by have := HM.out; omega
        clear hULe
        go_wp2_with fail
        go_roundw
        case rel =>
          refine ⟨k + 1, u * 10 + d, by omega, by go_num, ?_, ?_, ?_, by first | rfl | trivial⟩
          · congr 1; omega
          · show _ = _; rw [HST.out]
          · show _ ≤ _; omega
        case measure => simp [intOf]; omega
    · have hkk : k = ds.length := by omega
      subst hkk
      have huv : u = v := by rw [HU.out, HE.out]
      subst huv
      have hfin : numV true u = some (-(u : Int)) := numV_t u (by have := HLe.out; omega)
      have HF := hid hfin
      clear hfin
      go_wp2_with fail
      refine bodyPost_ret (v := .tuple #[.int .i64 (-(u : Int)), .bool true]) (by simp [results, Try.results52, go_sem]) rfl ⟨⟨-(u : Int), ?_, ?_⟩, rfl⟩
      · rw [HF.out]; rfl
      · intro y hy; rw [HF.out] at hy; cases hy; rfl
set_option maxRecDepth 100000 in
set_option maxHeartbeats 1000000 in
theorem rnum_f (ds : List UInt8) (hd : ∀ x ∈ ds, isDg x = true) (hne : 0 < ds.length) (hl : (ds.length : Int) ≤ 140737488355328) (w : World) : Calls Try.prog 52 #[.string (St ds)] w (RNumP false (dval ds) w) := by
  have hsd := St_size ds
  have hneI : 0 < (ds.length : Int) := by omega
  have HD := hid hd
  clear hd
  have HV := hid (dval_le ds)
  have HE := hid (show dval (ds.take ds.length) = dval ds by rw [List.take_length])
  have HN := hid (numV_no false (dval ds))
  have HSt := hid (dval_step ds)
  generalize dval ds = v at *
  have hi0 := idx ds 0 hne
  simp only [Int.natCast_zero] at hi0
  have hc0 : ¬ ((ds[0].toNat : Nat) : Int) = 45 := by
    have := HD.out ds[0] (List.getElem_mem _)
    simp [isDg] at this; omega
  have hb45 : (((ds[0].toNat : Nat) : Int) == 45) = false := beq_eq_false_iff_ne.2 hc0
  generalize ds[0] = c0 at *
  go_enter Try.func52, Try.ntmps52
  go_wp2_with fail
  go_loopw [4, 6] (fun n i wr => ∃ (k u : Nat), (k : Int) ≤ ds.length ∧ i = .int .i64 k ∧ n = .int .i64 (-(u : Int)) ∧ Hid (u = dval (ds.take k)) ∧ Hid (u ≤ 9223372036854775808) ∧ w = wr) (fun _ i _ => ds.length - (intOf i).toNat)
  case atStart => exact ⟨0, 0, by omega, rfl, rfl, by show _ = _; rfl, by show _ ≤ _; omega, rfl⟩
  case round =>
    obtain ⟨k, u, hk, rfl, rfl, HU, HLe, hw⟩ := hrel
    subst hw
    by_cases hlt : k < ds.length
    · have hi := idx ds k hlt
      have hkI : (k : Int) < ds.length := by omega
      have hcd := HD.out ds[k] (List.getElem_mem _)
      have hst := HSt.out k hlt
      generalize ds[k] = c at *
      simp [isDg] at hcd
      obtain ⟨d, hd⟩ : ∃ d : Nat, c.toNat = 48 + d := ⟨c.toNat - 48, by omega⟩
      have hd9 : d ≤ 9 := by omega
      have hst2 : dval (ds.take (k + 1)) = u * 10 + d := by rw [hst, ← HU.out]; unfold dstep; omega
      have HST := hid hst2
      have hdI : (c.toNat : Int) = 48 + (d : Int) := by omega
      have htd := tdiv_is d hd9
      obtain ⟨m, hm⟩ : ∃ m : Nat, (9223372036854775808 - d) / 10 = m := ⟨_, rfl⟩
      rw [hm] at htd
      have HM := hid hm
      have hd9I : (d : Int) ≤ 9 := by omega
      have hmod : (d : Int) % 256 = d := by omega
      have hdd : (48 : Int) + (d : Int) - 48 = d := by omega
      have hULe := HLe.out
      have hmle : (m : Int) ≤ 922337203685477580 := by omega
      clear hcd hst hst2 hm hd9 hd
      by_cases hov : m < u
      · have hovI : -(u : Int) < -(m : Int) := by omega
        have HNo := hid (HN.out (by have h1 := HV.out (k + 1); rw [HST.out] at h1; have := HM.out; omega))
        have hovI2 : (m : Int) < u := by omega
        clear hULe
        go_wp2_with fail
        refine bodyPost_ret (v := .tuple #[.int .i64 0, .bool false]) (by simp [results, Try.results52, go_sem]) rfl ⟨⟨0, ?_, ?_⟩, rfl⟩
        · rw [HNo.out]; rfl
        · intro y hy; rw [HNo.out] at hy; cases hy
      · have hovI : ¬ -(u : Int) < -(m : Int) := by omega
        have hovI2 : ¬ (m : Int) < u := by omega
        have hb1 : (u : Int) * 10 + d ≤ 9223372036854775808 := by have := HM.out; omega
        clear hULe
        go_wp2_with fail
        go_roundw
        case rel =>
          refine ⟨k + 1, u * 10 + d, by omega, by go_num, ?_, ?_, ?_, by first | rfl | trivial⟩
          · congr 1; omega
          · show _ = _; rw [HST.out]
          · show _ ≤ _; omega
        case measure => simp [intOf]; omega
    · have hkk : k = ds.length := by omega
      subst hkk
      have huv : u = v := by rw [HU.out, HE.out]
      subst huv
      rcases Nat.lt_or_ge u 9223372036854775808 with h9 | h9
      · have HF := hid (numV_f u h9)
        have hg1 : -9223372036854775807 ≤ -(u : Int) := by omega
        have hg2 : (-9223372036854775808 : Int) < -(u : Int) := by omega
        clear h9
        go_wp2_with fail
        refine bodyPost_ret (v := .tuple #[.int .i64 (u : Int), .bool true]) (by simp [results, Try.results52, go_sem]) rfl ⟨⟨(u : Int), ?_, ?_⟩, rfl⟩
        · rw [HF.out]; rfl
        · intro y hy; rw [HF.out] at hy; cases hy; rfl
      · have hv9 : u = 9223372036854775808 := by have := HLe.out; omega
        have HF := hid (numV_fn u (by omega))
        have hvI : -(u : Int) = -9223372036854775808 := by omega
        clear h9
        go_wp2_with fail
        refine bodyPost_ret (v := .tuple #[.int .i64 (wrap64 9223372036854775808), .bool false]) (by simp [results, Try.results52, go_sem]) rfl ⟨⟨wrap64 9223372036854775808, ?_, ?_⟩, rfl⟩
        · rw [HF.out]; rfl
        · intro y hy; rw [HF.out] at hy; cases hy
theorem rnum_any (ng : Bool) (ds : List UInt8) (hd : ∀ x ∈ ds, isDg x = true) (hne : 0 < ds.length) (hl : (ds.length : Int) ≤ 140737488355328) (w : World) : Calls Try.prog 52 #[.string (St (sgnL ng ++ ds))] w (RNumP ng (dval ds) w) := by
  cases ng
  · exact rnum_f ds hd hne hl w
  · exact rnum_t ds hd hne hl w
end Go.Proofs.Ytjekpclbedbaoaa
