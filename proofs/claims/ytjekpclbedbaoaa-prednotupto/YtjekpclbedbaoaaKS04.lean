/-
  What Lex returns.
  Lex of two texts with a blank between.
  Lex of two texts, the second of which begins with what ends a token.
  Tokens behind a query that begin with a bar change nothing ahead of them.
-/
import Derived.Test.YtjekpclbedbaoaaKS02
import Derived.Test.YtjekpclbedbaoaaKS03
namespace Go.Proofs.Ytjekpclbedbaoaa
open Go.RowKit Go.Joins

def tkC (t : Tk) : List Value := [.int .i64 t.kind, .string (St t.s), .int .i64 t.n, .int .i64 t.at_]
def tksC (ts : List Tk) : List Value := ts.flatMap tkC
theorem tksC_snoc (ts : List Tk) (t : Tk) : tksC ts ++ tkC t = tksC (ts ++ [t]) := by simp [tksC]
theorem tksC_len (ts : List Tk) : (tksC ts).length = ts.length * 4 := by
  induction ts with
  | nil => rfl
  | cons t r ih => simp only [tksC, List.flatMap_cons, List.length_append, List.length_cons] at ih ⊢; rw [ih]; simp [tkC]; omega
/-- A row of tokens of one's own, of blocks from B on. -/
def Tr (B : Nat) (w : World) (v : Value) (ts : List Tk) : Prop := w.ownsRow B 67 4 v ts.length (tksC ts)
theorem row_on {w w' : World} {B e k n : Nat} {v : Value} {xs : List Value} (h : w.ownsRow B e k v n xs) (hb : Below w.heap.size w w') : w'.ownsRow B e k v n xs := by
  obtain ⟨h1, h2⟩ := h
  refine ⟨h1, ?_⟩
  rcases h2 with h2 | ⟨g, cap, cur, rfl, hg, hc, hr⟩
  · exact .inl h2
  · exact .inr ⟨g, cap, cur, rfl, hg, block_on hc hb, hr⟩
theorem Tr.on {w w' : World} {B : Nat} {v : Value} {ts : List Tk} (h : Tr B w v ts) (hb : Below w.heap.size w w') : Tr B w' v ts := row_on h hb
theorem Tr.nil (B : Nat) (w : World) : Tr B w (.slice none 0 0) [] := World.ownsRow_nil _ _ _ _
theorem Try.info67 : (Try.prog.info? 67).map (fun i => (i.zero, i.size, i.bytes)) = some (some (.agg #[.int .i64 0, .string ⟨#[]⟩, .int .i64 0, .int .i64 0]), 4, 40) := by kernel_rfl
theorem appT {ops : Array Oper} {rest : List Oper} {o : Oper} {a : Act} {Q : Exit → Act → World → Prop} {w : World} {B : Nat} {v : Value} {g : Nat} {ts : List Tk} {t : Tk}
    (hgd : o.guard = none) (s x : Operand) (ho : o.op = .call { callee := .builtin .append, args := #[s, x], argTypes := #[28, 28] })
    (hs : a.eval s = v) (hown : Tr B w v ts) (hx : a.eval x = .slice (some ⟨g, 0, none⟩) 1 1) (hc : Bx w g (.int .i64 t.kind) (.string (St t.s)) (.int .i64 t.n) (.int .i64 t.at_)) (hn : ts.length ≤ 1000000) (hB : B ≤ w.heap.size)
    (h : ∀ v' w', Tr B w' v' (ts ++ [t]) → Below B w w' → wpList Try.prog ops Q rest (a.put o.dst v') w') : wpList Try.prog ops Q (o :: rest) a w := by
  obtain ⟨i0, hi, hz0, hz1, hz2⟩ := info_parts Try.info67
  obtain ⟨c0, c1, c2, c3⟩ := hc.cells
  refine wpList_append_own w hgd s x 28 ho B 67 i0 _ 4 40 Try.underlying28 hi hz0 hz1 hz2 rfl (by decide) v ts.length _ hs hown ⟨g, 0, none⟩ 1 1 (tkC t) hx rfl ?_ ?_ ?_ ?_ hB ?_
  · intro j u hj
    match j, hj with
    | 0, hj => simp [tkC] at hj; subst hj; simpa [Addr.add] using c0
    | 1, hj => simp [tkC] at hj; subst hj; simpa [Addr.add] using c1
    | 2, hj => simp [tkC] at hj; subst hj; simpa [Addr.add] using c2
    | 3, hj => simp [tkC] at hj; subst hj; simpa [Addr.add] using c3
    | n + 4, hj => simp [tkC] at hj
  · intro u hu; simp [tkC] at hu; rcases hu with rfl | rfl | rfl | rfl <;> rfl
  · unfold maxLen; omega
  · omega
  · intro v' w' h1 h2 _
    refine h v' w' ?_ ((Below.refl B w).grown h2 hB (fun k e => (hown.lt k e).1))
    unfold Tr
    rw [← tksC_snoc, List.length_append]
    exact h1
theorem Tr.alloc {w : World} {B : Nat} {v : Value} {ts : List Tk} (h : Tr B w v ts) (o : Obj) : Tr B (w.alloc o) v ts := World.ownsRow.alloc h o
theorem two_boxes (w : World) (o : Obj) (c0 c1 c2 c3 : Value) : Bx ((w.alloc o).alloc (.cells #[c0, c1, c2, c3] 67)) (w.heap.size + 1) c0 c1 c2 c3 := by
  have h := Bx.made (w.alloc o) c0 c1 c2 c3
  rw [World.size_alloc] at h
  exact h
theorem below_two {w0 w w' : World} {o1 o2 : Obj} (h : Below w0.heap.size w0 w) (h2 : Below w0.heap.size ((w.alloc o1).alloc o2) w') : Below w0.heap.size w0 w' :=
  ((h.alloc h.size o1).alloc (by have := h.size; simp; omega) o2).trans h2
/-- What Lex answers: the tokens, the place, the error. -/
def lexO (l : List UInt8) : List Tk × Nat × Int :=
  if 2048 < l.length then ([], 0, 2) else match lexA 0 l with
    | .inl a => ([], a, 110)
    | .inr ts => (ts, 0, 0)
def joinT (ts : List Tk) : Nat ⊕ List Tk → Nat ⊕ List Tk
  | .inl e => .inl e
  | .inr m => .inr (ts ++ m)
theorem lexO_long {l : List UInt8} (h : 2048 < l.length) : lexO l = ([], 0, 2) := by unfold lexO; rw [if_pos h]
theorem lexO_bad {l : List UInt8} {a : Nat} (h : ¬ 2048 < l.length) (h2 : lexA 0 l = .inl a) : lexO l = ([], a, 110) := by unfold lexO; rw [if_neg h, h2]
theorem lexO_ok {l : List UInt8} {ts : List Tk} (h : ¬ 2048 < l.length) (h2 : lexA 0 l = .inr ts) : lexO l = (ts, 0, 0) := by unfold lexO; rw [if_neg h, h2]
theorem join_end {l : List UInt8} {ts : List Tk} {k : Nat} (h : lexA 0 l = joinT ts (lexA k (l.drop k))) (hk : ¬ k < l.length) : lexA 0 l = .inr ts := by
  rw [h, List.drop_of_length_le (by omega), lexA_nil]; simp [joinT]
theorem join_bad {l : List UInt8} {ts : List Tk} {k : Nat} (h : lexA 0 l = joinT ts (lexA k (l.drop k))) (hk : k < l.length) (hb : isBl l[k] = false) (hf : firstS (l.drop k) = none) : lexA 0 l = .inl k := by
  rw [drop_at hk] at hf h
  rw [h, lexA_no k hb hf]; rfl
theorem join_tok {l : List UInt8} {ts : List Tk} {k n : Nat} {t : Tk} (h : lexA 0 l = joinT ts (lexA k (l.drop k))) (hk : k < l.length) (hb : isBl l[k] = false) (hf : firstS (l.drop k) = some (t, n)) :
    lexA 0 l = joinT (ts ++ [{ t with at_ := k }]) (lexA (k + n) (l.drop (k + n))) := by
  rw [drop_at hk] at hf h
  rw [h, lexA_some k hb hf, ← drop_at hk, List.drop_drop]
  cases lexA (k + n) (l.drop (k + n)) <;> simp [joinT]
theorem join_sp {l : List UInt8} {ts : List Tk} {k : Nat} (h : lexA 0 l = joinT ts (lexA k (l.drop k))) : lexA 0 l = joinT ts (lexA (k + spanN isBl (l.drop k)) (l.drop (k + spanN isBl (l.drop k)))) := by
  rw [h, lexA_span k (l.drop k), List.drop_drop]
def Nb (l : List UInt8) (k : Nat) : Prop := ∀ h : k < l.length, isBl l[k] = false
theorem stop_sp (l : List UInt8) (k : Nat) : Nb l (k + spanN isBl (l.drop k)) := by
  intro h
  have := spanN_stop isBl (l.drop k) (by simp; omega)
  rw [List.getElem_drop] at this
  exact this
/-- The loop's state: how far, which tokens. -/
def Lq (w wr : World) (l : List UInt8) (v : Value) (k : Nat) (ts : List Tk) : Prop :=
  lexA 0 l = joinT ts (lexA k (l.drop k)) ∧ Nb l k ∧ ts.length ≤ k ∧ Tr w.heap.size wr v ts ∧ Below w.heap.size w wr
def LexP (l : List UInt8) (w : World) (e : Ending) (w' : World) : Prop :=
  ∃ v, e = .returned (.tuple #[v, .int .i64 ((lexO l).2.1 : Nat), .int .i64 (lexO l).2.2]) ∧ Tr w.heap.size w' v (lexO l).1 ∧ Below w.heap.size w w'
end Go.Proofs.Ytjekpclbedbaoaa
namespace Go.Proofs.Ytjekpclbedbaoaa
open Go.RowKit Go.Joins

theorem bl_wd {b : UInt8} (h : isBl b = true) : isWd b = false := by simp [isBl] at h; simp [isWd]; omega
theorem bl_dg {b : UInt8} (h : isBl b = true) : isDg b = false := by simp [isBl] at h; simp [isDg]; omega
theorem txt_app : ∀ (l m acc : List UInt8) (sl : Bool) (k : Nat) (x : List UInt8 × Nat), txtF acc sl k l = some x → txtF acc sl k (l ++ m) = some x
  | [], m, acc, sl, k, x, h => by simp [txtF] at h
  | c :: r, m, acc, sl, k, x, h => by
    rw [List.cons_append]
    unfold txtF at h ⊢
    split at h
    · cases h
    · rename_i h1
      rw [if_neg h1]
      split at h
      · rename_i h2; rw [if_pos h2]; exact h
      · rename_i h2
        rw [if_neg h2]
        split at h
        · rename_i h3; rw [if_pos h3]; exact txt_app r m _ _ _ _ h
        · rename_i h3; rw [if_neg h3]; exact txt_app r m _ _ _ _ h
theorem sign_app {b c : UInt8} (hb : isBl b = true) (xs r : List UInt8) : signS (c :: xs ++ b :: r) = signS (c :: xs) := by
  have hb61 : ¬ (61 : UInt8) = b := fun e => by subst e; simp [isBl] at hb
  have e : ∀ x ∈ signsL, x.isPrefixOf (c :: xs ++ b :: r) = x.isPrefixOf (c :: xs) := by
    intro x hx
    simp only [signsL, List.mem_cons, List.not_mem_nil, or_false] at hx
    rcases hx with h | h | h | h | h | h | h | h | h | h | h <;> subst h <;> cases xs <;> simp [List.isPrefixOf, hb61]
  unfold signS
  have : signsL.find? (fun x => x.isPrefixOf (c :: xs ++ b :: r)) = signsL.find? (fun x => x.isPrefixOf (c :: xs)) := by
    generalize signsL = L at *
    induction L with
    | nil => rfl
    | cons y L ih =>
      rw [List.find?_cons, List.find?_cons, e y (by simp), ih (fun x hx => e x (by simp [hx]))]
  rw [this]
theorem first_app {xs : List UInt8} {t : Tk} {n : Nat} {b : UInt8} (hb : isBl b = true) (r : List UInt8) (h : firstS xs = some (t, n)) : firstS (xs ++ b :: r) = some (t, n) := by
  have hp := firstS_pos h
  cases xs with
  | nil => simp [firstS] at h
  | cons c xs =>
    rw [List.cons_append]
    unfold firstS at h ⊢
    simp only at h ⊢
    split at h
    · rename_i h1
      rw [if_pos h1]
      unfold wordS at h ⊢
      rw [← List.cons_append, spanN_app isWd b (bl_wd hb)]
      have hle := spanN_le isWd (c :: xs)
      split at h
      · cases h
      · rename_i h2
        rw [if_neg h2, List.take_append_of_le_length hle]; exact h
    · rename_i h1
      rw [if_neg h1]
      split at h
      · rename_i h2
        rw [if_pos h2]
        have hng : neg1 (c :: (xs ++ b :: r)) = neg1 (c :: xs) := rfl
        have hsg : sgn1 (c :: (xs ++ b :: r)) = sgn1 (c :: xs) := rfl
        have hdg : digitsOf (c :: (xs ++ b :: r)) = digitsOf (c :: xs) ++ b :: r := by
          unfold digitsOf; rw [hng]; split <;> rfl
        unfold numS at h ⊢
        rw [hng, hsg, hdg, spanN_app isWd b (bl_wd hb), spanN_app isDg b (bl_dg hb)]
        have hle := spanN_le isDg (digitsOf (c :: xs))
        split at h
        · cases h
        · rename_i h3
          rw [if_neg h3]
          have hne : digitsOf (c :: xs) ≠ [] := fun e => by
            rw [e] at h3; exact h3 (.inl rfl)
          have hh : (digitsOf (c :: xs) ++ b :: r).head? = (digitsOf (c :: xs)).head? := by
            cases hx : digitsOf (c :: xs) with
            | nil => exact absurd hx hne
            | cons y ys => rfl
          rw [hh]
          split at h
          · cases h
          · rename_i h4
            rw [if_neg h4, List.take_append_of_le_length hle]; exact h
      · rename_i h2
        rw [if_neg h2]
        split at h
        · rename_i h3
          rw [if_pos h3]
          unfold textS at h ⊢
          simp only [List.tail_cons] at h ⊢
          split at h
          · rename_i e1
            rw [txt_app xs (b :: r) _ _ _ _ e1]; exact h
          · cases h
        · rename_i h3
          rw [if_neg h3, ← List.cons_append, sign_app hb]; exact h
theorem lexA_app {b : UInt8} (hb : isBl b = true) (r : List UInt8) : ∀ (f : Nat) (xs : List UInt8) (a : Nat) (ts : List Tk), xs.length ≤ f → lexA a xs = .inr ts → lexA a (xs ++ b :: r) = joinT ts (lexA (a + xs.length) (b :: r))
  | _, [], a, ts, _, h => by
    rw [lexA_nil] at h; cases h
    simp only [List.nil_append, List.length_nil, Nat.add_zero]
    cases lexA a (b :: r) <;> rfl
  | 0, c :: xs, a, ts, hf, _ => by simp at hf
  | f + 1, c :: xs, a, ts, hf, h => by
    cases hc : isBl c with
    | true =>
      rw [lexA_bl a xs hc] at h
      rw [List.cons_append, lexA_bl a _ hc, lexA_app hb r f xs (a + 1) ts (by simpa using hf) h]
      simp [Nat.add_assoc, Nat.add_comm 1]
    | false =>
      cases hfi : firstS (c :: xs) with
      | none => rw [lexA_no a hc hfi] at h; cases h
      | some x =>
        obtain ⟨t, n⟩ := x
        have hp := firstS_pos hfi
        rw [lexA_some a hc hfi] at h
        have hfa := first_app hb r hfi
        rw [List.cons_append] at hfa ⊢
        rw [lexA_some a hc hfa, ← List.cons_append, List.drop_append_of_le_length hp.2]
        cases hr : lexA (a + n) ((c :: xs).drop n) with
        | inl e => rw [hr] at h; cases h
        | inr m =>
          rw [hr] at h
          cases h
          rw [lexA_app hb r f _ _ m (by simp at hf ⊢; omega) hr, List.length_drop, show a + n + ((c :: xs).length - n) = a + (c :: xs).length by omega]
          cases lexA (a + (c :: xs).length) (b :: r) <;> rfl
def sig (t : Tk) : Nat × List UInt8 × Int := (t.kind, t.s, t.n)
theorem lexA_move : ∀ (f : Nat) (xs : List UInt8) (a b : Nat) (ts : List Tk), xs.length ≤ f → lexA a xs = .inr ts → ∃ us, lexA b xs = .inr us ∧ us.map sig = ts.map sig
  | _, [], a, b, ts, _, h => by
    rw [lexA_nil] at h; cases h
    exact ⟨[], rfl, rfl⟩
  | 0, c :: xs, a, b, ts, hf, _ => by simp at hf
  | f + 1, c :: xs, a, b, ts, hf, h => by
    cases hc : isBl c with
    | true =>
      rw [lexA_bl a xs hc] at h
      obtain ⟨us, h1, h2⟩ := lexA_move f xs (a + 1) (b + 1) ts (by simpa using hf) h
      exact ⟨us, by rw [lexA_bl b xs hc]; exact h1, h2⟩
    | false =>
      cases hfi : firstS (c :: xs) with
      | none => rw [lexA_no a hc hfi] at h; cases h
      | some x =>
        obtain ⟨t, n⟩ := x
        have hp := firstS_pos hfi
        rw [lexA_some a hc hfi] at h
        cases hr : lexA (a + n) ((c :: xs).drop n) with
        | inl e => rw [hr] at h; cases h
        | inr m =>
          rw [hr] at h
          cases h
          obtain ⟨us, h1, h2⟩ := lexA_move f ((c :: xs).drop n) (a + n) (b + n) m (by simp at hf ⊢; omega) hr
          refine ⟨{ t with at_ := b } :: us, ?_, by simp [h2, sig]⟩
          rw [lexA_some b hc hfi, h1]
theorem lexO_inr {l : List UInt8} {ts : List Tk} {a : Nat} (h : lexO l = (ts, a, 0)) : lexA 0 l = .inr ts := by
  unfold lexO at h
  split at h
  · cases h
  · split at h
    · cases h
    · rename_i e; cases h; exact e
end Go.Proofs.Ytjekpclbedbaoaa
namespace Go.Proofs.Ytjekpclbedbaoaa
open Go.RowKit Go.Joins

def Sep (b : UInt8) : Prop := isWd b = false ∧ isDg b = false ∧ ¬ (61 : UInt8) = b
theorem sign_sep {b c : UInt8} (hb : Sep b) (xs r : List UInt8) : signS (c :: xs ++ b :: r) = signS (c :: xs) := by
  have hb61 := hb.2.2
  have e : ∀ x ∈ signsL, x.isPrefixOf (c :: xs ++ b :: r) = x.isPrefixOf (c :: xs) := by
    intro x hx
    simp only [signsL, List.mem_cons, List.not_mem_nil, or_false] at hx
    rcases hx with h | h | h | h | h | h | h | h | h | h | h <;> subst h <;> cases xs <;> simp [List.isPrefixOf, hb61]
  unfold signS
  have : signsL.find? (fun x => x.isPrefixOf (c :: xs ++ b :: r)) = signsL.find? (fun x => x.isPrefixOf (c :: xs)) := by
    generalize signsL = L at *
    induction L with
    | nil => rfl
    | cons y L ih =>
      rw [List.find?_cons, List.find?_cons, e y (by simp), ih (fun x hx => e x (by simp [hx]))]
  rw [this]
theorem first_sep {xs : List UInt8} {t : Tk} {n : Nat} {b : UInt8} (hb : Sep b) (r : List UInt8) (h : firstS xs = some (t, n)) : firstS (xs ++ b :: r) = some (t, n) := by
  have hp := firstS_pos h
  cases xs with
  | nil => simp [firstS] at h
  | cons c xs =>
    rw [List.cons_append]
    unfold firstS at h ⊢
    simp only at h ⊢
    split at h
    · rename_i h1
      rw [if_pos h1]
      unfold wordS at h ⊢
      rw [← List.cons_append, spanN_app isWd b (hb.1)]
      have hle := spanN_le isWd (c :: xs)
      split at h
      · cases h
      · rename_i h2
        rw [if_neg h2, List.take_append_of_le_length hle]; exact h
    · rename_i h1
      rw [if_neg h1]
      split at h
      · rename_i h2
        rw [if_pos h2]
        have hng : neg1 (c :: (xs ++ b :: r)) = neg1 (c :: xs) := rfl
        have hsg : sgn1 (c :: (xs ++ b :: r)) = sgn1 (c :: xs) := rfl
        have hdg : digitsOf (c :: (xs ++ b :: r)) = digitsOf (c :: xs) ++ b :: r := by
          unfold digitsOf; rw [hng]; split <;> rfl
        unfold numS at h ⊢
        rw [hng, hsg, hdg, spanN_app isWd b (hb.1), spanN_app isDg b (hb.2.1)]
        have hle := spanN_le isDg (digitsOf (c :: xs))
        split at h
        · cases h
        · rename_i h3
          rw [if_neg h3]
          have hne : digitsOf (c :: xs) ≠ [] := fun e => by
            rw [e] at h3; exact h3 (.inl rfl)
          have hh : (digitsOf (c :: xs) ++ b :: r).head? = (digitsOf (c :: xs)).head? := by
            cases hx : digitsOf (c :: xs) with
            | nil => exact absurd hx hne
            | cons y ys => rfl
          rw [hh]
          split at h
          · cases h
          · rename_i h4
            rw [if_neg h4, List.take_append_of_le_length hle]; exact h
      · rename_i h2
        rw [if_neg h2]
        split at h
        · rename_i h3
          rw [if_pos h3]
          unfold textS at h ⊢
          simp only [List.tail_cons] at h ⊢
          split at h
          · rename_i e1
            rw [txt_app xs (b :: r) _ _ _ _ e1]; exact h
          · cases h
        · rename_i h3
          rw [if_neg h3, ← List.cons_append, sign_sep hb]; exact h
theorem lexA_sep {b : UInt8} (hb : Sep b) (r : List UInt8) : ∀ (f : Nat) (xs : List UInt8) (a : Nat) (ts : List Tk), xs.length ≤ f → lexA a xs = .inr ts → lexA a (xs ++ b :: r) = joinT ts (lexA (a + xs.length) (b :: r))
  | _, [], a, ts, _, h => by
    rw [lexA_nil] at h; cases h
    simp only [List.nil_append, List.length_nil, Nat.add_zero]
    cases lexA a (b :: r) <;> rfl
  | 0, c :: xs, a, ts, hf, _ => by simp at hf
  | f + 1, c :: xs, a, ts, hf, h => by
    cases hc : isBl c with
    | true =>
      rw [lexA_bl a xs hc] at h
      rw [List.cons_append, lexA_bl a _ hc, lexA_sep hb r f xs (a + 1) ts (by simpa using hf) h]
      simp [Nat.add_assoc, Nat.add_comm 1]
    | false =>
      cases hfi : firstS (c :: xs) with
      | none => rw [lexA_no a hc hfi] at h; cases h
      | some x =>
        obtain ⟨t, n⟩ := x
        have hp := firstS_pos hfi
        rw [lexA_some a hc hfi] at h
        have hfa := first_sep hb r hfi
        rw [List.cons_append] at hfa ⊢
        rw [lexA_some a hc hfa, ← List.cons_append, List.drop_append_of_le_length hp.2]
        cases hr : lexA (a + n) ((c :: xs).drop n) with
        | inl e => rw [hr] at h; cases h
        | inr m =>
          rw [hr] at h
          cases h
          rw [lexA_sep hb r f _ _ m (by simp at hf ⊢; omega) hr, List.length_drop, show a + n + ((c :: xs).length - n) = a + (c :: xs).length by omega]
          cases lexA (a + (c :: xs).length) (b :: r) <;> rfl
end Go.Proofs.Ytjekpclbedbaoaa
namespace Go.Proofs.Ytjekpclbedbaoaa

section
variable {ts us : List Tp} {b : Tp}
/- The tokens behind begin with a bar. -/
def Bar (us : List Tp) : Prop := ∃ b r, us = b :: r ∧ b.kind = 4 ∧ b.s = wBar
theorem isW_app_lt {i : Nat} (h : i < ts.length) (x : List UInt8) : isW (ts ++ us) i x = isW ts i x := by
  unfold isW; rw [List.getElem?_append_left h]
theorem isK_app_lt {i : Nat} (h : i < ts.length) (k : Int) : isK (ts ++ us) i k = isK ts i k := by
  unfold isK; rw [List.getElem?_append_left h]
theorem here_app_lt {i : Nat} (h : i < ts.length) : hereS (ts ++ us) i = hereS ts i := by
  unfold hereS; rw [List.getElem?_append_left h]
theorem isW_app (k : Nat) (x : List UInt8) : isW (ts ++ us) (ts.length + k) x = isW us k x := by
  unfold isW; rw [List.getElem?_append_right (by omega), Nat.add_sub_cancel_left]
theorem isK_app (k : Nat) (x : Int) : isK (ts ++ us) (ts.length + k) x = isK us k x := by
  unfold isK; rw [List.getElem?_append_right (by omega), Nat.add_sub_cancel_left]
theorem here_app (k : Nat) : hereS (ts ++ us) (ts.length + k) = hereS us k := by
  unfold hereS; rw [List.getElem?_append_right (by omega), Nat.add_sub_cancel_left]
theorem isW_bar (hb : Bar us) {i : Nat} (hi : i ≤ ts.length) {x : List UInt8} (hx : ¬ x = wBar) : isW (ts ++ us) i x = isW ts i x := by
  rcases Nat.lt_or_ge i ts.length with h | h
  · exact isW_app_lt h x
  · obtain rfl : i = ts.length := by omega
    obtain ⟨b, r, rfl, h1, h2⟩ := hb
    have e1 := isW_app (ts := ts) (us := b :: r) 0 x
    rw [Nat.add_zero] at e1
    rw [e1]
    have e2 : isW ts ts.length x = false := by unfold isW; rw [List.getElem?_eq_none (by omega)]
    rw [e2]
    simp only [isW, List.getElem?_cons_zero, h2]
    simp
    intro _ e; exact hx e.symm
theorem isK_bar (hb : Bar us) {i : Nat} (hi : i ≤ ts.length) {k : Int} (hk : ¬ k = 4) : isK (ts ++ us) i k = isK ts i k := by
  rcases Nat.lt_or_ge i ts.length with h | h
  · exact isK_app_lt h k
  · obtain rfl : i = ts.length := by omega
    obtain ⟨b, r, rfl, h1, h2⟩ := hb
    have e1 := isK_app (ts := ts) (us := b :: r) 0 k
    rw [Nat.add_zero] at e1
    rw [e1]
    have e2 : isK ts ts.length k = false := by unfold isK; rw [List.getElem?_eq_none (by omega)]
    rw [e2]
    simp only [isK, List.getElem?_cons_zero, h1]
    simp
    omega
/- What is read is read with them, too. -/
def Sm (ts : List Tp) {α : Type} (f g : Nat → Rs α) : Prop := ∀ i x j, i ≤ ts.length → f i = .ok x j → g i = .ok x j
theorem take_sm (hb : Bar us) {k : Int} (hk : ¬ k = 4) : Sm ts (takeS ts k) (takeS (ts ++ us) k) := by
  intro i x j hi h
  unfold takeS at h ⊢
  rw [isK_bar hb hi hk]
  split at h
  · rename_i h1
    rw [if_pos h1, here_app_lt (isK_lt h1)]; exact h
  · cases h
theorem want_sm (hb : Bar us) {x : List UInt8} (hx : ¬ x = wBar) : Sm ts (wantS ts x) (wantS (ts ++ us) x) := by
  intro i y j hi h
  unfold wantS at h ⊢
  rw [isW_bar hb hi hx]; exact h
theorem name_sm (hb : Bar us) : Sm ts (nameS ts) (nameS (ts ++ us)) := by
  intro i x j hi h
  obtain ⟨t, i1, h1, h2⟩ := and_ok h
  unfold nameS; rw [take_sm hb (by decide) _ _ _ hi h1]; exact h2
theorem num_sm (hb : Bar us) : Sm ts (numS' ts) (numS' (ts ++ us)) := by
  intro i x j hi h
  obtain ⟨t, i1, h1, h2⟩ := and_ok h
  unfold numS'; rw [take_sm hb (by decide) _ _ _ hi h1]; exact h2
theorem text_sm (hb : Bar us) : Sm ts (textV ts) (textV (ts ++ us)) := by
  intro i x j hi h
  obtain ⟨t, i1, h1, h2⟩ := and_ok h
  unfold textV; rw [take_sm hb (by decide) _ _ _ hi h1]; exact h2
theorem idx_sm (hb : Bar us) {i : Nat} (hi : i ≤ ts.length) : ∀ (ws : List (List UInt8)) (k : Nat), ¬ wBar ∈ ws → idxOf (ts ++ us) i ws k = idxOf ts i ws k
  | [], _, _ => rfl
  | x :: r, k, h => by
    unfold idxOf
    rw [isW_bar hb hi (fun e => h (by rw [e]; exact List.mem_cons_self)), idx_sm hb hi r (k + 1) (fun e => h (List.mem_cons_of_mem _ e))]
theorem oneOf_sm (hb : Bar us) {ws : List (List UInt8)} (hw : ¬ wBar ∈ ws) : Sm ts (oneOfS ts ws) (oneOfS (ts ++ us) ws) := by
  intro i x j hi h
  unfold oneOfS at h ⊢
  rw [idx_sm hb hi ws 0 hw]; exact h
theorem more_sm (hb : Bar us) {α : Type} {f g : Nat → Rs α} (hf : Sm ts f g) (hg : Go1 ts 1 f) : ∀ F F' acc i x j, i ≤ ts.length → ts.length ≤ F + i → ts.length < F' + i → moreS ts f F acc i = .ok x j → moreS (ts ++ us) g F' acc i = .ok x j
  | 0, F', acc, i, x, j, hi, h1, h2, h => by
    simp [moreS] at h
    obtain ⟨rfl, rfl⟩ := h
    obtain ⟨F'', rfl⟩ : ∃ n, F' = n + 1 := ⟨F' - 1, by omega⟩
    have e : isW ts i wComma = false := by unfold isW; rw [List.getElem?_eq_none (by omega)]
    rw [moreS, isW_bar hb hi (by decide), e]; rfl
  | F + 1, F', acc, i, x, j, hi, h1, h2, h => by
    obtain ⟨F'', rfl⟩ : ∃ n, F' = n + 1 := ⟨F' - 1, by omega⟩
    rw [moreS] at h ⊢
    rw [isW_bar hb hi (by decide)]
    split at h
    · rename_i hw
      rw [if_pos hw]
      have hlt := isW_lt hw
      obtain ⟨y, i1, h3, h4⟩ := and_ok h
      rw [hf _ _ _ (by omega) h3]
      have g1 := hg _ _ _ h3
      exact more_sm hb hf hg F F'' _ _ _ _ g1.2 (by omega) (by omega) h4
    · rename_i hw; rw [if_neg hw]; exact h
theorem list_sm (hb : Bar us) {α : Type} {f g : Nat → Rs α} (hf : Sm ts f g) (hg : Go1 ts 1 f) : Sm ts (listS ts f) (listS (ts ++ us) g) := by
  intro i x j hi h
  obtain ⟨y, i1, h1, h2⟩ := and_ok h
  have g1 := hg _ _ _ h1
  unfold listS
  rw [hf _ _ _ hi h1]
  have hl : ts.length < (ts ++ us).length := by obtain ⟨b, r, e, -, -⟩ := hb; rw [e]; simp
  exact more_sm hb hf hg _ _ _ _ _ _ g1.2 (by omega) (by omega) h2
theorem agg_sm (hb : Bar us) : Sm ts (aggS ts) (aggS (ts ++ us)) := by
  intro i x j hi h
  obtain ⟨k, i1, h1, h2⟩ := and_ok h
  have g1 := oneOf_go ts _ _ _ _ h1
  unfold aggS
  rw [oneOf_sm hb (by decide) _ _ _ hi h1]
  show (if k = 0 then _ else _) = _
  split at h2
  · rename_i hk; rw [if_pos hk]; exact h2
  · rename_i hk; rw [if_neg hk]
    obtain ⟨y, i2, h3, h4⟩ := and_ok h2
    rw [name_sm hb _ _ _ g1.2 h3]; exact h4
theorem value_sm (hb : Bar us) : Sm ts (valueS ts) (valueS (ts ++ us)) := by
  intro i x j hi h
  unfold valueS at h ⊢
  rw [isK_bar hb hi (by decide), isK_bar hb hi (by decide)]
  split at h
  · rename_i hk; rw [if_pos hk]
    obtain ⟨y, i2, h3, h4⟩ := and_ok h
    rw [num_sm hb _ _ _ hi h3]; exact h4
  · rename_i hk; rw [if_neg hk]
    split at h
    · rename_i hk2; rw [if_pos hk2]; exact text_sm hb _ _ _ hi h
    · rename_i hk2; rw [if_neg hk2]
      obtain ⟨y, i2, h3, h4⟩ := and_ok h
      rw [oneOf_sm hb (by decide) _ _ _ hi h3]; exact h4
theorem test_sm (hb : Bar us) : Sm ts (testS ts) (testS (ts ++ us)) := by
  intro i x j hi h
  obtain ⟨k, i1, h1, h2⟩ := and_ok h
  have g1 := name_go ts _ _ _ h1
  unfold testS
  rw [name_sm hb _ _ _ hi h1]
  show (if _ then _ else _) = _
  rw [isW_bar hb g1.2 (by decide)]
  split at h2
  · rename_i hw; rw [if_pos hw]
    obtain ⟨y, i2, h3, h4⟩ := and_ok h2
    have := isW_lt hw
    rw [text_sm hb _ _ _ (by omega) h3]; exact h4
  · rename_i hw; rw [if_neg hw]
    obtain ⟨y, i2, h3, h4⟩ := and_ok h2
    obtain ⟨z, i3, h5, h6⟩ := and_ok h4
    have g2 := oneOf_go ts _ _ _ _ h3
    rw [oneOf_sm hb (by decide) _ _ _ g1.2 h3]
    show (valueS (ts ++ us) i2).and _ = _
    rw [value_sm hb _ _ _ g2.2 h5]; exact h6
theorem fetch_sm (hb : Bar us) : Sm ts (fetchS ts) (fetchS (ts ++ us)) := by
  intro i x j hi h
  obtain ⟨_, i1, h1, h2⟩ := and_ok h
  obtain ⟨_, i2, h3, h4⟩ := and_ok h2
  have g1 := want_go ts _ _ _ _ h1
  have g2 := name_go ts _ _ _ h3
  unfold fetchS
  rw [want_sm hb (by decide) _ _ _ hi h1]
  show (nameS (ts ++ us) i1).and _ = _
  rw [name_sm hb _ _ _ g1.2 h3]
  show (if _ then _ else _) = _
  rw [isW_bar hb g2.2 (by decide)]
  split at h4
  · rename_i hw; rw [if_pos hw]
    have := isW_lt hw
    obtain ⟨_, i3, h5, h6⟩ := and_ok h4
    obtain ⟨_, i4, h7, h8⟩ := and_ok h6
    obtain ⟨_, i5, h9, h10⟩ := and_ok h8
    have g3 := num_go ts _ _ _ h5
    have g4 := want_go ts _ _ _ _ h7
    rw [num_sm hb _ _ _ (by omega) h5]
    show (wantS (ts ++ us) wTo i3).and _ = _
    rw [want_sm hb (by decide) _ _ _ g3.2 h7]
    show (numS' (ts ++ us) i4).and _ = _
    rw [num_sm hb _ _ _ g4.2 h9]; exact h10
  · rename_i hw; rw [if_neg hw]; exact h4
def SmN (ts : List Tp) (p q : PN) : Prop := ∀ i ns r j, i ≤ ts.length → p i ns = .ok r j → q i ns = .ok r j
def SmQ (ts : List Tp) (p q : PN) : Prop := ∀ i ns r j, i ≤ ts.length → p i ns = .ok r j → j < ts.length → q i ns = .ok r j
theorem chainL_sm (hb : Bar us) {x : List UInt8} (hx : ¬ x = wBar) {kind : Int} {p q : PN} (hp : SmN ts p q) (hg : GoN ts p) : ∀ F F' a i ns r j, i ≤ ts.length → ts.length ≤ F + i → ts.length < F' + i → chainL ts x kind p F a i ns = .ok r j → chainL (ts ++ us) x kind q F' a i ns = .ok r j
  | 0, F', a, i, ns, r, j, hi, h1, h2, h => by
    simp [chainL] at h
    obtain ⟨rfl, rfl⟩ := h
    obtain ⟨F'', rfl⟩ : ∃ n, F' = n + 1 := ⟨F' - 1, by omega⟩
    have e : isW ts i x = false := by unfold isW; rw [List.getElem?_eq_none (by omega)]
    rw [chainL, isW_bar hb hi hx, e]; rfl
  | F + 1, F', a, i, ns, r, j, hi, h1, h2, h => by
    obtain ⟨F'', rfl⟩ : ∃ n, F' = n + 1 := ⟨F' - 1, by omega⟩
    rw [chainL] at h ⊢
    rw [isW_bar hb hi hx]
    split at h
    · rename_i hw
      rw [if_pos hw]
      have hlt := isW_lt hw
      obtain ⟨y, i1, h3, h4⟩ := and_ok h
      rw [hp _ _ _ _ (by omega) h3]
      have g1 := hg _ _ _ _ h3
      exact chainL_sm hb hx hp hg F F'' _ _ _ _ _ g1.2.1 (by omega) (by omega) h4
    · rename_i hw; rw [if_neg hw]; exact h
theorem chain_sm (hb : Bar us) {x : List UInt8} (hx : ¬ x = wBar) {kind : Int} {p q : PN} (hp : SmN ts p q) (hg : GoN ts p) : SmN ts (chainS ts x kind p) (chainS (ts ++ us) x kind q) := by
  intro i ns r j hi h
  obtain ⟨y, i1, h1, h2⟩ := and_ok h
  have g1 := hg _ _ _ _ h1
  unfold chainS
  rw [hp _ _ _ _ hi h1]
  have hl : ts.length < (ts ++ us).length := by obtain ⟨b, r, e, -, -⟩ := hb; rw [e]; simp
  exact chainL_sm hb hx hp hg _ _ _ _ _ _ _ g1.2.1 (by omega) (by omega) h2
theorem condB_sm (hb : Bar us) {p q : PN} (hp : SmN ts p q) (hg : GoN ts p) : SmN ts (condB ts p) (condB (ts ++ us) q) := chain_sm hb (by decide) (chain_sm hb (by decide) hp hg) (both_go hg)
theorem inBr_sm (hb : Bar us) {o o' : Option PN} (ho : ∀ p, o = some p → ∃ q, o' = some q ∧ SmQ ts p q) : SmN ts (inBr ts o) (inBr (ts ++ us) o') := by
  intro i ns r j hi h
  unfold inBr at h ⊢
  rw [isW_bar hb hi (by decide)]
  split at h
  · rename_i hw; rw [if_pos hw]
    have hlt := isW_lt hw
    cases o with
    | none => cases h
    | some p =>
      obtain ⟨q, rfl, hq⟩ := ho p rfl
      obtain ⟨y, i1, h1, h2⟩ := and_ok h
      obtain ⟨_, i2, h3, h4⟩ := and_ok h2
      have hl : i1 < ts.length := by have := want_go ts _ _ _ _ h3; omega
      show (q (i + 1) ns).and _ = _
      rw [hq _ _ _ _ (by omega) h1 hl]
      show (wantS (ts ++ us) wShut i1).and _ = _
      rw [want_sm hb (by decide) _ _ _ (by omega) h3]; exact h4
  · cases h
theorem notB_sm (hb : Bar us) {o o' : Option PN} (ho : ∀ p, o = some p → ∃ q, o' = some q ∧ SmN ts p q ∧ GoN ts p) : SmN ts (notB ts o) (notB (ts ++ us) o') := by
  intro i ns r j hi h
  unfold notB at h ⊢
  rw [isW_bar hb hi (by decide), isW_bar hb hi (by decide)]
  split at h
  · rename_i hw; rw [if_pos hw]
    have hlt := isW_lt hw
    cases o with
    | none => cases h
    | some p =>
      obtain ⟨q, rfl, hq, -⟩ := ho p rfl
      obtain ⟨y, i1, h1, h2⟩ := and_ok h
      show (q (i + 1) ns).and _ = _
      rw [hq _ _ _ _ (by omega) h1]; exact h2
  · rename_i hw; rw [if_neg hw]
    split at h
    · rename_i hw2; rw [if_pos hw2]
      refine inBr_sm hb ?_ _ _ _ _ hi h
      intro c hc
      cases o with
      | none => cases hc
      | some p =>
        cases hc
        obtain ⟨q, rfl, hq, hg⟩ := ho p rfl
        exact ⟨_, rfl, fun i ns r j hi h _ => condB_sm hb hq hg _ _ _ _ hi h⟩
    · rename_i hw2; rw [if_neg hw2]
      obtain ⟨y, i1, h1, h2⟩ := and_ok h
      rw [test_sm hb _ _ _ hi h1]; exact h2
theorem not_sm (hb : Bar us) : ∀ d, SmN ts (notS ts d) (notS (ts ++ us) d)
  | 0 => notB_sm hb (fun p h => by cases h)
  | d + 1 => notB_sm hb (fun p h => by cases h; exact ⟨_, rfl, not_sm hb d, not_go ts d⟩)
theorem cond_sm (hb : Bar us) (d : Nat) : SmN ts (condS ts d) (condS (ts ++ us) d) := condB_sm hb (not_sm hb d) (not_go ts d)
theorem step_sm (hb : Bar us) {c c' : PN} {o o' : Option PN} (hc : SmN ts c c') (ho : ∀ p, o = some p → ∃ q, o' = some q ∧ SmQ ts p q) (a i : Nat) (ns : List Np) (r : Np × List Np) (j : Nat) (hi : i ≤ ts.length) (h : stepB ts c o a i ns = .ok r j) : stepB (ts ++ us) c' o' a i ns = .ok r j := by
  obtain ⟨k, i1, h1, h2⟩ := and_ok h
  have g1 := (oneOf_go ts _ _ _ _ h1).2
  unfold stepB
  rw [oneOf_sm hb (by decide) _ _ _ hi h1]
  simp only [Rs.and]
  split at h2
  · obtain ⟨y, i2, h3, h4⟩ := and_ok h2
    simp only [hc _ _ _ _ g1 h3]; exact h4
  · obtain ⟨y, i2, h3, h4⟩ := and_ok h2
    simp only [list_sm hb (name_sm hb) (name_go ts) _ _ _ g1 h3]; exact h4
  · obtain ⟨y, i2, h3, h4⟩ := and_ok h2
    simp only [num_sm hb _ _ _ g1 h3]; exact h4
  · simp only [isW_bar hb g1 (x := wColon) (by decide)]
    split at h2
    · rename_i hw; simp only [hw, if_true]
      have := isW_lt hw
      obtain ⟨y, i2, h3, h4⟩ := and_ok h2
      simp only [list_sm hb (agg_sm hb) (agg_go ts) _ _ _ (by omega) h3]; exact h4
    · rename_i hw
      rw [if_neg hw]
      obtain ⟨y, i2, h3, h4⟩ := and_ok h2
      obtain ⟨_, i3, h5, h6⟩ := and_ok h4
      obtain ⟨_, i4, h7, h8⟩ := and_ok h6
      have g2 := (list_go (name_go ts) _ _ _ h3).2
      have g3 := (want_go ts _ _ _ _ h5).2
      simp only [list_sm hb (name_sm hb) (name_go ts) _ _ _ g1 h3, want_sm hb (x := wColon) (by decide) _ _ _ g2 h5, list_sm hb (agg_sm hb) (agg_go ts) _ _ _ g3 h7]; exact h8
  · obtain ⟨y, i2, h3, h4⟩ := and_ok h2
    obtain ⟨_, i3, h5, h6⟩ := and_ok h4
    obtain ⟨_, i4, h7, h8⟩ := and_ok h6
    have g2 := (num_go ts _ _ _ h3).2
    have g3 := (want_go ts _ _ _ _ h5).2
    simp only [num_sm hb _ _ _ g1 h3, want_sm hb (x := wBy) (by decide) _ _ _ g2 h5, name_sm hb _ _ _ g3 h7]; exact h8
  · obtain ⟨y, i2, h3, h4⟩ := and_ok h2
    simp only [inBr_sm hb ho _ _ _ _ g1 h3]; exact h4
  · obtain ⟨y, i2, h3, h4⟩ := and_ok h2
    simp only [inBr_sm hb ho _ _ _ _ g1 h3]; exact h4
/- Its steps are gone through as they were, till the tokens end. -/
theorem stepsL_sm (hb : Bar us) {c c' : PN} {o o' : Option PN} (hc : SmN ts c c') (ho : ∀ p, o = some p → ∃ q, o' = some q ∧ SmQ ts p q) (hgc : GoN ts c) (hgo : ∀ p, o = some p → GoN ts p) : ∀ F F' a i ns r j, i ≤ ts.length → ts.length ≤ F + i → ts.length < F' + i → stepsL ts (stepB ts c o) F a i ns = .ok r j →
    (j < ts.length → stepsL (ts ++ us) (stepB (ts ++ us) c' o') F' a i ns = .ok r j) ∧ (j = ts.length → ∃ F'', F' + i ≤ F'' + ts.length ∧ stepsL (ts ++ us) (stepB (ts ++ us) c' o') F' a i ns = stepsL (ts ++ us) (stepB (ts ++ us) c' o') F'' r.1 ts.length r.2)
  | 0, F', a, i, ns, r, j, hi, h1, h2, h => by
    simp [stepsL] at h
    obtain ⟨rfl, rfl⟩ := h
    exact ⟨fun hj => by omega, fun hj => ⟨F', by omega, by rw [hj]⟩⟩
  | F + 1, F', a, i, ns, r, j, hi, h1, h2, h => by
    obtain ⟨F'', rfl⟩ : ∃ n, F' = n + 1 := ⟨F' - 1, by omega⟩
    rw [stepsL] at h
    split at h
    · rename_i hw
      have hlt := isW_lt hw
      obtain ⟨y, i1, h3, h4⟩ := and_ok h
      have g1 := stepB_go hgc hgo _ _ _ _ _ h3
      have e : stepsL (ts ++ us) (stepB (ts ++ us) c' o') (F'' + 1) a i ns = stepsL (ts ++ us) (stepB (ts ++ us) c' o') F'' y.2.length i1 (y.2 ++ [y.1]) := by
        rw [stepsL, isW_app_lt hlt, if_pos hw, step_sm hb hc ho _ _ _ _ _ (by omega) h3]; rfl
      have ih := stepsL_sm hb hc ho hgc hgo F F'' _ _ _ _ _ g1.2.1 (by omega) (by omega) h4
      refine ⟨fun hj => by rw [e]; exact ih.1 hj, fun hj => ?_⟩
      obtain ⟨G, hG, e2⟩ := ih.2 hj
      exact ⟨G, by omega, by rw [e, e2]⟩
    · rename_i hw
      cases h
      refine ⟨fun hj => ?_, fun hj => ⟨F'' + 1, by omega, by rw [hj]⟩⟩
      rw [stepsL, isW_app_lt hj, if_neg hw]
theorem queryB_sm (hb : Bar us) {c c' : PN} {o o' : Option PN} (hc : SmN ts c c') (ho : ∀ p, o = some p → ∃ q, o' = some q ∧ SmQ ts p q) (hgc : GoN ts c) (hgo : ∀ p, o = some p → GoN ts p) {i : Nat} {ns : List Np} {r : Nat × List Np} {j : Nat} (hi : i ≤ ts.length) (h : queryB ts c o i ns = .ok r j) :
    (j < ts.length → queryB (ts ++ us) c' o' i ns = .ok r j) ∧ (j = ts.length → ∃ F, us.length ≤ F ∧ queryB (ts ++ us) c' o' i ns = stepsL (ts ++ us) (stepB (ts ++ us) c' o') F r.1 ts.length r.2) := by
  obtain ⟨y, i1, h1, h2⟩ := and_ok h
  have g1 := (fetch_go ts _ _ _ h1).2
  have hl : ts.length < (ts ++ us).length := by obtain ⟨b, r, e, -, -⟩ := hb; rw [e]; simp
  have hs := stepsL_sm hb hc ho hgc hgo _ (ts ++ us).length _ _ _ _ _ g1 (by omega) (by omega) h2
  have e : queryB (ts ++ us) c' o' i ns = stepsL (ts ++ us) (stepB (ts ++ us) c' o') (ts ++ us).length ns.length i1 (ns ++ [y]) := by
    unfold queryB; rw [fetch_sm hb _ _ _ hi h1]; rfl
  refine ⟨fun hj => by rw [e]; exact hs.1 hj, fun hj => ?_⟩
  obtain ⟨G, hG, e2⟩ := hs.2 hj
  exact ⟨G, by rw [List.length_append] at hG; omega, by rw [e, e2]⟩
theorem query_sm (hb : Bar us) : ∀ d, SmQ ts (queryS ts d) (queryS (ts ++ us) d)
  | 0 => fun i ns r j hi h hj => (queryB_sm hb (cond_sm hb 0) (fun p h => by cases h) (cond_go ts 0) (fun p h => by cases h) hi h).1 hj
  | d + 1 => fun i ns r j hi h hj => (queryB_sm hb (cond_sm hb (d + 1)) (fun p h => by cases h; exact ⟨_, rfl, query_sm hb d⟩) (cond_go ts (d + 1)) (fun p h => by cases h; exact query_go ts d) hi h).1 hj
/- Behind a whole query the steps go on. -/
theorem query_on (hb : Bar us) {A : List Np} {a : Nat} (h : parseS ts = (A, a, 0)) : ∃ F, us.length ≤ F ∧ queryS (ts ++ us) 16 0 [] = stepsL (ts ++ us) (stepB (ts ++ us) (condS (ts ++ us) 16) (some (queryS (ts ++ us) 15))) F (A.length - 1) ts.length A := by
  have h0 : (parseS ts).2.2 = 0 := by rw [h]
  unfold parseS wholeS at h h0
  split at h0
  · simp at h0
  · rename_i hl
    rw [if_neg hl] at h
    cases hq : queryS ts 16 0 [] with
    | bad i c =>
      rw [hq] at h0
      exact absurd h0 (query_bd ts 16 0 [] i c hq)
    | ok r j =>
      rw [hq] at h h0
      simp only at h h0
      split at h0
      · simp at h0
      · rename_i hj
        rw [if_neg hj] at h
        split at h0
        · simp at h0
        · rename_i h2
          rw [if_neg h2] at h
          cases h
          have g := query_go ts 16 _ _ _ _ hq
          obtain ⟨new, -, -, e3⟩ := query_t ts 16 _ _ _ _ hq
          have ej : j = ts.length := by omega
          obtain ⟨F, hF, e⟩ := (queryB_sm (ts := ts) (us := us) hb (cond_sm hb 16) (o := some (queryS ts 15)) (o' := some (queryS (ts ++ us) 15)) (fun p h => by cases h; exact ⟨_, rfl, query_sm hb 15⟩) (cond_go ts 16) (fun p h => by cases h; exact query_go ts 15) (Nat.zero_le _) hq).2 ej
          exact ⟨F, hF, by rw [show r.2.length - 1 = r.1 by omega]; exact e⟩
end
end Go.Proofs.Ytjekpclbedbaoaa
