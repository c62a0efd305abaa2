/-
  A query, and the same with brackets about its condition: the same nodes.
-/
import Derived.Test.YtomnjckbgmbgmaaGreatDoorQBrM
import Derived.Test.YtomnjckbgmbgmaaGreatDoorQCutO
import Derived.Test.YtomnjckbgmbgmaaGreatDoorQLexS
namespace Go.Proofs.YtomnjckbgmbgmaaGreatDoor
open Go.RowKit Go.Joins

/- fetch x | where -/
def preW : List UInt8 := [102, 101, 116, 99, 104, 32, 120, 32, 124, 32, 119, 104, 101, 114, 101]
def preT : List Tk := [⟨1, [102, 101, 116, 99, 104], 0, 0⟩, ⟨1, [120], 0, 6⟩, ⟨4, [124], 0, 8⟩, ⟨1, [119, 104, 101, 114, 101], 0, 10⟩]
theorem pre_lex : lexA 0 preW = .inr preT := by decide +kernel
theorem open_first (r : List UInt8) : firstS (40 :: r) = some (⟨4, [40], 0, 0⟩, 1) := by
  have f1 : isLe 40 = false := by decide
  have f2 : isDg 40 = false := by decide
  unfold firstS
  simp only [f1, f2]
  have e : signS (40 :: r) = signS [40] := by
    unfold signS
    simp [signsL, List.find?, List.isPrefixOf]
  rw [e]
  show signS [40] = _
  decide +kernel
theorem shut_lex (k : Nat) : lexA k [41, 32] = .inr [⟨4, [41], 0, k⟩] := by
  have hf : firstS [41, 32] = some (⟨4, [41], 0, 0⟩, 1) := by decide +kernel
  rw [lexA_some k (by decide) hf]
  rfl
theorem lex_one {l : List UInt8} {T : List Tk} (h : lexA 0 (preW ++ 32 :: l) = .inr T) : ∃ m, lexA 16 l = .inr m ∧ T = preT ++ m := by
  rw [lexA_app (b := 32) (by decide) l preW.length preW 0 preT (Nat.le_refl _) pre_lex, lexA_bl _ _ (by decide)] at h
  have e : 0 + preW.length + 1 = 16 := rfl
  rw [e] at h
  cases hm : lexA 16 l with
  | inl a => rw [hm] at h; cases h
  | inr m => rw [hm] at h; cases h; exact ⟨m, rfl, rfl⟩
theorem lex_two {l : List UInt8} {m : List Tk} (h : lexA 16 l = .inr m) : ∃ n k, lexA 0 (preW ++ 32 :: 40 :: (l ++ [41, 32])) = .inr (preT ++ ⟨4, [40], 0, 16⟩ :: (n ++ [⟨4, [41], 0, k⟩])) ∧ n.map sig = m.map sig := by
  obtain ⟨n, hn, hs⟩ := lexA_move l.length l 16 17 m (Nat.le_refl _) h
  refine ⟨n, 17 + l.length, ?_, hs⟩
  rw [lexA_app (b := 32) (by decide) _ preW.length preW 0 preT (Nat.le_refl _) pre_lex, lexA_bl _ _ (by decide)]
  have e : 0 + preW.length + 1 = 16 := rfl
  rw [e, lexA_some 16 (by decide) (open_first _)]
  have e2 : List.drop 1 (40 :: (l ++ [41, 32])) = l ++ 41 :: [32] := rfl
  rw [e2, lexA_sep (b := 41) (by unfold Sep; decide) [32] l.length l 17 n (Nat.le_refl _) hn, shut_lex]
  rfl
theorem rl_of {m n : List Tk} {k : Nat} (h : n.map sig = m.map sig) : Rl 4 ((preT ++ m).map tp) ((preT ++ (⟨4, [40], 0, 16⟩ : Tk) :: (n ++ [(⟨4, [41], 0, k⟩ : Tk)])).map tp) := by
  have hl : n.length = m.length := by have := congrArg List.length h; simpa using this
  have hp : preT.length = 4 := rfl
  refine ⟨by simp [hl, hp]; omega, fun i h1 h2 => ?_, ?_⟩
  · simp only [List.length_map, List.length_append, hp] at h2
    obtain ⟨j, rfl⟩ : ∃ j, i = 4 + j := ⟨i - 4, by omega⟩
    have hj : j < m.length := by omega
    have hj2 : j < n.length := by omega
    have e := congrArg (fun x => x[j]?) h
    simp only [List.getElem?_map, List.getElem?_eq_getElem hj, List.getElem?_eq_getElem hj2, Option.map_some, Option.some.injEq, sig, Prod.mk.injEq] at e
    refine ⟨tp m[j], tp n[j], ?_, ?_, ?_, ?_, ?_⟩
    · rw [List.getElem?_map, List.getElem?_append_right (by omega), hp, show 4 + j - 4 = j by omega, List.getElem?_eq_getElem hj]; rfl
    · rw [List.getElem?_map, List.getElem?_append_right (by omega), hp, show 4 + j + 1 - 4 = j + 1 by omega, List.getElem?_cons_succ, List.getElem?_append_left hj2, List.getElem?_eq_getElem hj2]; rfl
    · simp [tp, e.1]
    · simp [tp, e.2.1]
    · simp [tp, e.2.2]
  · refine ⟨tp ⟨4, [41], 0, k⟩, ?_, rfl, rfl⟩
    rw [List.getElem?_map, List.getElem?_append_right (by simp; omega)]
    simp [hp]
    rw [show 4 + m.length - 3 = m.length + 1 by omega, List.getElem?_cons_succ, List.getElem?_append_right (by omega)]
    simp [hl]
theorem br_is (l : List UInt8) (h1 : (queryO (preW ++ 32 :: l)).2.2 = 0) (h2 : (queryO (preW ++ 32 :: 40 :: (l ++ [41, 32]))).2.2 = 0) : (queryO (preW ++ 32 :: l)).1 = (queryO (preW ++ 32 :: 40 :: (l ++ [41, 32]))).1 := by
  obtain ⟨t1, a, e1, e2, e3⟩ := queryO_ok h1
  obtain ⟨t2, b, f1, f2, f3⟩ := queryO_ok h2
  rw [e3, f3]
  obtain ⟨m, g1, rfl⟩ := lex_one (lexO_inr e1)
  obtain ⟨n, k, g2, hs⟩ := lex_two g1
  have g3 := lexO_inr f1
  rw [g2] at g3
  cases g3
  exact br_same (M := m.map tp) (N := (n ++ [(⟨4, [41], 0, k⟩ : Tk)]).map tp) (a0 := 0) (a1 := 6) (a2 := 8) (a3 := 10) (b0 := 0) (b1 := 6) (b2 := 8) (b3 := 10) (b4 := 16) (by rw [List.map_append]; rfl) (by rw [List.map_append]; rfl) (rl_of hs)
    (fun i c h => query_bd _ 16 0 [] i c h) (fun i c h => query_bd _ 16 0 [] i c h) e2 f2
end Go.Proofs.YtomnjckbgmbgmaaGreatDoor
