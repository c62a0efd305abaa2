/-
  A text quoted, and what is cut of it.
-/
import Derived.Test.YtceifmnnejlkfaaDoorQRText
import Derived.Test.YtceifmnnejlkfaaDoorQSignsW
namespace Go.Proofs.YtceifmnnejlkfaaDoor
open Go.RowKit Go.Joins
theorem app2 {ops : Array Oper} {rest : List Oper} {o : Oper} {a : Act} {Q : Exit → Act → World → Prop} {w : World} {B n : Nat} {xs : List Value} {v c : Value} {g : Nat}
    (hgd : o.guard = none) (s x : Operand) (ho : o.op = .call { callee := .builtin .append, args := #[s, x], argTypes := #[41, 41] })
    (hs : a.eval s = v) (hown : w.ownsRow B 5 1 v n xs) (hx : a.eval x = .slice (some ⟨g, 0, none⟩) 1 1) (hc : w.cell? ⟨g, 0, none⟩ = some c) (h1 : c.oneCell' = true) (hn : n ≤ 4000000) (hB : B ≤ w.heap.size)
    (h : ∀ v' w', w'.ownsRow B 5 1 v' (n + 1) (xs ++ [c]) → Below B w w' → wpList Tryd.prog ops Q rest (a.put o.dst v') w') : wpList Tryd.prog ops Q (o :: rest) a w := by
  obtain ⟨i0, hi, hz0, hz1, hz2⟩ := info_parts Tryd.info5
  refine wpList_append_own w hgd s x 41 ho B 5 i0 (.int .u8 0) 1 1 Tryd.underlying41 hi hz0 hz1 hz2 rfl (by decide) v n xs hs hown ⟨g, 0, none⟩ 1 1 [c] hx rfl ?_ ?_ ?_ ?_ hB ?_
  · intro j u hj
    match j, hj with
    | 0, hj => simp at hj; subst hj; simpa [Addr.add] using hc
  · intro u hu; simp at hu; subst hu; exact h1
  · unfold maxLen; omega
  · omega
  · intro v' w' h1 h2 _
    exact h v' w' h1 ((Below.refl B w).grown h2 hB (fun k e => (hown.lt k e).1))
def escC (c : UInt8) : List UInt8 := if nSl c then [92, c] else [c]
def esc : List UInt8 → List UInt8
  | [] => []
  | c :: r => escC c ++ esc r
def quoted (l : List UInt8) : List UInt8 := 34 :: (esc l ++ [34])
theorem esc_append (x y : List UInt8) : esc (x ++ y) = esc x ++ esc y := by
  induction x with
  | nil => rfl
  | cons c r ih => simp [esc, ih]
theorem escC_le (c : UInt8) : 1 ≤ (escC c).length ∧ (escC c).length ≤ 2 := by
  unfold escC; split <;> simp
theorem esc_le (x : List UInt8) : x.length ≤ (esc x).length ∧ (esc x).length ≤ 2 * x.length := by
  induction x with
  | nil => simp [esc]
  | cons c r ih => have := escC_le c; simp only [esc, List.length_append, List.length_cons]; omega
theorem nSl_cases (c : UInt8) : (nSl c = true ∧ escC c = [92, c]) ∨ (nSl c = false ∧ escC c = [c] ∧ ¬ c.toNat = 34 ∧ ¬ c.toNat = 92) := by
  cases h : nSl c with
  | true => left; exact ⟨rfl, by unfold escC; rw [if_pos h]⟩
  | false =>
    right
    refine ⟨rfl, by unfold escC; rw [if_neg (by simp [h])], ?_⟩
    simp [nSl] at h; exact h
theorem txt_esc : ∀ (l acc : List UInt8) (k : Nat), txtF acc false k (esc l ++ [34]) = if acc.length + l.length ≤ 64 then some (acc ++ l, k + (esc l).length + 2) else none
  | [], acc, k => by
    by_cases h : acc.length ≤ 64
    · rw [if_pos (by simpa using h)]
      show txtF acc false k (34 :: []) = _
      rw [tx_end acc [] k (by omega) rfl]; simp [esc]
    · rw [if_neg (by simpa using h)]
      exact txtF_long _ _ _ _ (by omega)
  | c :: r, acc, k => by
    by_cases h : 64 < acc.length
    · rw [if_neg (by simp; omega)]
      exact txtF_long _ _ _ _ h
    · rcases nSl_cases c with ⟨hn, he⟩ | ⟨hn, he, h1, h2⟩
      · have e : esc (c :: r) ++ [34] = 92 :: c :: (esc r ++ [34]) := by simp [esc, he]
        rw [e, tx_sl acc _ k h rfl, tx_app1 acc _ _ h hn, txt_esc r (acc ++ [c]) (k + 1 + 1)]
        have e2 : (esc (c :: r)).length = 2 + (esc r).length := by simp [esc, he]; omega
        simp only [List.length_append, List.length_cons, List.length_nil, List.append_assoc, List.singleton_append]
        rw [e2]
        by_cases h64 : acc.length + (r.length + 1) ≤ 64
        · rw [if_pos (by omega), if_pos (by omega)]; congr 2; omega
        · rw [if_neg (by omega), if_neg (by omega)]
      · have e : esc (c :: r) ++ [34] = c :: (esc r ++ [34]) := by simp [esc, he]
        rw [e, tx_app0 acc _ k h h1 h2, txt_esc r (acc ++ [c]) (k + 1)]
        have e2 : (esc (c :: r)).length = 1 + (esc r).length := by simp [esc, he]; omega
        simp only [List.length_append, List.length_cons, List.length_nil, List.append_assoc, List.singleton_append]
        rw [e2]
        by_cases h64 : acc.length + (r.length + 1) ≤ 64
        · rw [if_pos (by omega), if_pos (by omega)]; congr 2; omega
        · rw [if_neg (by omega), if_neg (by omega)]
theorem quoted_len (l : List UInt8) : (quoted l).length = (esc l).length + 2 := by simp [quoted]
theorem first_quoted (l : List UInt8) : firstS (quoted l) = if l.length ≤ 64 then some (⟨3, l, 0, 0⟩, (quoted l).length) else none := by
  rw [firstS_t (l := quoted l) (by simp [quoted]) rfl]
  have e := txt_esc l [] 0
  simp only [List.length_nil, Nat.zero_add, List.nil_append] at e
  by_cases h : l.length ≤ 64
  · rw [if_pos h] at e ⊢
    rw [textS_yes (quoted l) l ((esc l).length + 2) e, quoted_len]
  · rw [if_neg h] at e ⊢
    exact textS_no (l := quoted l) e
theorem lex_quoted {l : List UInt8} (h : l.length ≤ 64) : lexO (quoted l) = ([⟨3, l, 0, 0⟩], 0, 0) := by
  have hf := first_quoted l
  rw [if_pos h] at hf
  have hl := quoted_len l
  have he := esc_le l
  refine lexO_ok (by omega) ?_
  show lexA 0 (34 :: (esc l ++ [34])) = _
  rw [lexA_some 0 (by decide) (show firstS (34 :: (esc l ++ [34])) = _ from hf)]
  rw [show List.drop (quoted l).length (34 :: (esc l ++ [34])) = [] from List.drop_length (l := quoted l), lexA_nil]
theorem lex_quoted_no {l : List UInt8} (h : ¬ l.length ≤ 64) : ∃ (ts : List Tk) (a : Nat) (er : Int), lexO (quoted l) = (ts, a, er) ∧ ¬ er = 0 := by
  have hf := first_quoted l
  rw [if_neg h] at hf
  by_cases h2 : 2048 < (quoted l).length
  · exact ⟨_, _, _, lexO_long h2, by decide⟩
  · exact ⟨_, _, _, lexO_bad h2 (lexA_no 0 (by decide) hf), by decide⟩
theorem esc_step {l : List UInt8} {k : Nat} (h : k < l.length) : esc (l.take (k + 1)) = esc (l.take k) ++ escC l[k] := by
  rw [List.take_succ_eq_append_getElem h, esc_append]; simp [esc]
end Go.Proofs.YtceifmnnejlkfaaDoor
