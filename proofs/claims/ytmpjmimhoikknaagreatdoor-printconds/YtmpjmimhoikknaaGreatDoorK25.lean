/-
  A number's digits are cut as this number alone.
  Tokens that are those of given words: what is read of them.
  Names, numbers, texts, tests, fetches: what is read of their words.
-/
import Derived.Test.YtmpjmimhoikknaaGreatDoorK12
import Derived.Test.YtmpjmimhoikknaaGreatDoorK24
namespace Go.Proofs.YtmpjmimhoikknaaGreatDoor
open Go.RowKit Go.Joins Go.Sort

theorem head_app {a b : List UInt8} (h : a ≠ []) : (a ++ b).head? = a.head? := by
  cases a with
  | nil => exact absurd rfl h
  | cons c r => rfl
theorem dec_facts (u : Nat) : (∀ x ∈ Lib.decDigits u, isDg x = true) ∧ Lib.decDigits u ≠ [] ∧ dval (Lib.decDigits u) = u ∧ ((Lib.decDigits u).head? = some 48 → u = 0) := by
  induction u using Nat.strongRecOn with
  | ind u ih =>
    by_cases h : u < 10
    · have e : Lib.decDigits u = [digC u] := by rw [Lib.decDigits, dif_pos h]; rfl
      have ht := digC_toNat h
      rw [e]
      refine ⟨?_, by simp, ?_, ?_⟩
      · intro x hx
        simp at hx; subst hx
        simp [isDg, ht]; omega
      · simp [dval, dvalF, dstep, ht]
      · intro hh
        simp at hh
        rw [hh] at ht
        have : (48 : UInt8).toNat = 48 := rfl
        omega
    · have e := dec_step h
      obtain ⟨i1, i2, i3, i4⟩ := ih (u / 10) (by omega)
      have ht := digC_toNat (d := u % 10) (by omega)
      rw [e]
      refine ⟨?_, by simp, ?_, ?_⟩
      · intro x hx
        simp only [List.mem_append, List.mem_singleton] at hx
        rcases hx with hx | hx
        · exact i1 x hx
        · subst hx; simp [isDg, ht]; omega
      · unfold dval at i3 ⊢
        rw [dvalF_append, i3, dvalF_cons, dvalF_nil]
        unfold dstep
        rw [ht]; omega
      · intro hh
        rw [head_app i2] at hh
        have := i4 hh
        omega
/-- What stands behind a number: nothing, or a byte that is none of a word. -/
def Ends (r : List UInt8) : Prop := ∀ c ∈ r.head?, isWd c = false
theorem span_ends (p : UInt8 → Bool) (hp : ∀ c, p c = true → isWd c = true) (ds r : List UInt8) (hd : ∀ x ∈ ds, p x = true) (hr : Ends r) : spanN p (ds ++ r) = ds.length := by
  cases r with
  | nil => rw [List.append_nil]; exact spanN_allp p ds hd
  | cons c r =>
    have hc : p c = false := by
      cases h : p c with
      | false => rfl
      | true => have := hr c (by simp); rw [hp c h] at this; cases this
    rw [spanN_app p c hc]; exact spanN_allp p ds hd
theorem num_first (n : Int) (hn : In64 n) (r : List UInt8) (hr : Ends r) : firstS (Lib.itoa n ++ r) = some (⟨2, [], n, 0⟩, (Lib.itoa n).length) := by
  obtain ⟨h1, h2⟩ := hn
  by_cases hneg : n < 0
  · have e : Lib.itoa n = 45 :: Lib.decDigits n.natAbs := by unfold Lib.itoa; rw [if_pos hneg]
    obtain ⟨d1, d2, d3, d4⟩ := dec_facts n.natAbs
    rw [e]
    generalize Lib.decDigits n.natAbs = D at *
    have ef : firstS (45 :: D ++ r) = numS (45 :: (D ++ r)) := by simp [firstS, isLe]
    have ng : neg1 (45 :: (D ++ r)) = true := rfl
    have dg : digitsOf (45 :: (D ++ r)) = D ++ r := rfl
    have sg : sgn1 (45 :: (D ++ r)) = 1 := rfl
    have s1 := span_ends isDg (fun c h => isDg_isWd h) D r d1 hr
    have s2 := span_ends isWd (fun c h => h) D r (fun x hx => isDg_isWd (d1 x hx)) hr
    have hl : 0 < D.length := List.length_pos_iff.2 d2
    have hh : (D ++ r).head? = D.head? := head_app d2
    rw [ef]
    unfold numS
    rw [dg, ng, sg, s1, s2, hh, if_neg (by omega), if_neg ?_, List.take_left' rfl, d3]
    · have : numV true n.natAbs = some n := by
        unfold numV
        rw [if_pos rfl, if_pos (by omega)]
        congr 1; omega
      rw [this]; simp
    · rintro ⟨h3, -⟩
      have := d4 h3; omega
  · have e : Lib.itoa n = Lib.decDigits n.toNat := by unfold Lib.itoa; rw [if_neg hneg]
    obtain ⟨d1, d2, d3, d4⟩ := dec_facts n.toNat
    have d5 : n.toNat = 0 → (Lib.decDigits n.toNat).length = 1 := fun h => by rw [h, Lib.decDigits]; rfl
    rw [e]
    generalize Lib.decDigits n.toNat = D at *
    obtain ⟨c, t, rfl⟩ : ∃ c t, D = c :: t := by
      cases D with
      | nil => exact absurd rfl d2
      | cons c t => exact ⟨c, t, rfl⟩
    have hc := d1 c (by simp)
    have hcl : isLe c = false := by simp [isDg] at hc; simp [isLe]; omega
    have ef : firstS (c :: t ++ r) = numS (c :: t ++ r) := by
      show (if isLe c then _ else _) = _
      rw [hcl, if_neg (by simp), hc, Bool.or_true, if_pos rfl]; rfl
    have hc45 : ¬ c = 45 := fun h => by subst h; simp [isDg] at hc
    have ng : neg1 (c :: t ++ r) = false := by simp [neg1, hc45]
    have dg : digitsOf (c :: t ++ r) = c :: t ++ r := by unfold digitsOf; rw [ng]; rfl
    have sg : sgn1 (c :: t ++ r) = 0 := by unfold sgn1; rw [ng]; rfl
    have s1 := span_ends isDg (fun c h => isDg_isWd h) (c :: t) r d1 hr
    have s2 := span_ends isWd (fun c h => h) (c :: t) r (fun x hx => isDg_isWd (d1 x hx)) hr
    have hh : (c :: t ++ r).head? = (c :: t).head? := rfl
    rw [ef]
    unfold numS
    rw [dg, ng, sg, s1, s2, hh, if_neg (by simp), if_neg ?_, List.take_left' rfl, d3]
    · have : numV false n.toNat = some n := by
        unfold numV
        rw [if_neg Bool.false_ne_true, if_pos (by omega)]
        congr 1; omega
      rw [this]; simp
    · rintro ⟨h3, h4⟩
      have := d5 (d4 h3); omega
theorem itoa_cons (n : Int) : ∃ c t, Lib.itoa n = c :: t ∧ isBl c = false := by
  unfold Lib.itoa
  split
  · exact ⟨45, _, rfl, by decide⟩
  · obtain ⟨d1, d2, -, -⟩ := dec_facts n.toNat
    cases h : Lib.decDigits n.toNat with
    | nil => exact absurd h d2
    | cons c t =>
      refine ⟨c, t, rfl, ?_⟩
      have := d1 c (by rw [h]; simp)
      simp [isDg] at this
      simp [isBl]; omega
theorem num_lex (n : Int) (hn : In64 n) : lexO (Lib.itoa n) = ([⟨2, [], n, 0⟩], 0, 0) := by
  have hl := Lib.itoa_length_le n hn.1 hn.2
  have hf := num_first n hn [] (fun c h => by simp at h)
  rw [List.append_nil] at hf
  obtain ⟨c, t, e, hb⟩ := itoa_cons n
  refine lexO_ok (by omega) ?_
  rw [e] at hf ⊢
  rw [lexA_some 0 hb hf, List.drop_length, lexA_nil]
theorem num_lex2 (n : Int) (hn : In64 n) : lexO ([60, 61] ++ Lib.itoa n ++ [41]) = ([⟨4, [60, 61], 0, 0⟩, ⟨2, [], n, 2⟩, ⟨4, [41], 0, 2 + (Lib.itoa n).length⟩], 0, 0) := by
  have hl := Lib.itoa_length_le n hn.1 hn.2
  have hf := num_first n hn [41] (fun c h => by simp at h; subst h; decide)
  obtain ⟨c, t, e, hb⟩ := itoa_cons n
  refine lexO_ok (by simp; omega) ?_
  have f1 : firstS (60 :: 61 :: (Lib.itoa n ++ [41])) = some (⟨4, [60, 61], 0, 0⟩, 2) := by
    simp [firstS, isLe, isDg, signS, signsL, List.find?, List.isPrefixOf]
  have g1 : lexA (2 + (Lib.itoa n).length) [41] = .inr [⟨4, [41], 0, 2 + (Lib.itoa n).length⟩] := by
    rw [lexA_some _ (by decide) (show firstS [41] = some (⟨4, [41], 0, 0⟩, 1) by decide)]; rfl
  have g2 : lexA 2 (Lib.itoa n ++ [41]) = .inr [⟨2, [], n, 2⟩, ⟨4, [41], 0, 2 + (Lib.itoa n).length⟩] := by
    rw [e] at hf ⊢
    rw [List.cons_append] at hf ⊢
    rw [lexA_some 2 hb hf, ← List.cons_append, ← e, List.drop_left' rfl, g1]
  show lexA 0 (60 :: 61 :: (Lib.itoa n ++ [41])) = _
  rw [lexA_some 0 (by decide) f1]
  show (match lexA 2 (Lib.itoa n ++ [41]) with | .inl e => _ | .inr l => _) = _
  rw [g2]
end Go.Proofs.YtmpjmimhoikknaaGreatDoor
namespace Go.Proofs.YtmpjmimhoikknaaGreatDoor

def tw (s : List UInt8) : Option Tk := match (lexO s).1 with
  | [t] => some t
  | _ => none
def Has (ts : List Tp) (p : Nat) (ws : List (List UInt8)) : Prop := ∀ (j : Nat) (s : List UInt8), ws[j]? = some s → ∃ (t : Tk) (u : Tp), tw s = some t ∧ ts[p + j]? = some u ∧ u.kind = (t.kind : Int) ∧ u.s = t.s ∧ u.n = t.n
section
variable {ts : List Tp} {p : Nat} {x : List UInt8} {r a b : List (List UInt8)} {t : Tk}
theorem Has.left (h : Has ts p (a ++ b)) : Has ts p a := fun j s hs => h j s (by rw [List.getElem?_append_left (List.getElem?_eq_some_iff.1 hs).1]; exact hs)
theorem Has.right (h : Has ts p (a ++ b)) : Has ts (p + a.length) b := fun j s hs => by
  have := h (a.length + j) s (by rw [List.getElem?_append_right (by omega), show a.length + j - a.length = j by omega]; exact hs)
  rwa [← Nat.add_assoc] at this
theorem Has.tl (h : Has ts p (x :: r)) : Has ts (p + 1) r := fun j s hs => by
  have := h (j + 1) s (by simpa using hs)
  rwa [show p + (j + 1) = p + 1 + j by omega] at this
theorem Has.le (h : Has ts p r) (hr : r ≠ []) : p + r.length ≤ ts.length := by
  have hl : r.length - 1 < r.length := by
    have := List.length_pos_iff.2 hr; omega
  obtain ⟨t, u, -, h2, -⟩ := h (r.length - 1) _ (List.getElem?_eq_getElem hl)
  have := (List.getElem?_eq_some_iff.1 h2).1
  omega
theorem Has.hd (h : Has ts p (x :: r)) (ht : tw x = some t) : ∃ u, ts[p]? = some u ∧ u.kind = (t.kind : Int) ∧ u.s = t.s ∧ u.n = t.n := by
  obtain ⟨t', u, h1, h2, h3⟩ := h 0 x rfl
  rw [ht] at h1; cases h1
  exact ⟨u, h2, h3⟩
theorem has_K (h : Has ts p (x :: r)) (ht : tw x = some t) (k : Int) : isK ts p k = decide ((t.kind : Int) = k) := by
  obtain ⟨u, hu, hk, -⟩ := h.hd ht
  unfold isK; rw [hu]; simp only [hk]
theorem has_W (h : Has ts p (x :: r)) (ht : tw x = some t) (hk : t.kind = 1 ∨ t.kind = 4) (y : List UInt8) : isW ts p y = decide (t.s = y) := by
  obtain ⟨u, hu, hk', hs, -⟩ := h.hd ht
  unfold isW; rw [hu]
  have : (u.kind = 1 ∨ u.kind = 4) := by rw [hk']; omega
  simp only [hs, this, true_and]
theorem has_W0 (h : Has ts p (x :: r)) (ht : tw x = some t) (hk : t.kind = 2 ∨ t.kind = 3) (y : List UInt8) : isW ts p y = false := by
  obtain ⟨u, hu, hk', -⟩ := h.hd ht
  unfold isW; rw [hu]
  have : ¬ (u.kind = 1 ∨ u.kind = 4) := by rw [hk']; omega
  simp [this]
theorem has_here (h : Has ts p (x :: r)) (ht : tw x = some t) : (hereS ts p).s = t.s ∧ (hereS ts p).n = t.n := by
  obtain ⟨u, hu, -, hs, hn⟩ := h.hd ht
  unfold hereS; rw [hu]; exact ⟨hs, hn⟩
/- A key word or a sign; a name. -/
def Kw (x : List UInt8) : Prop := ∃ k a, tw x = some ⟨k, x, 0, a⟩ ∧ (k = 1 ∨ k = 4)
def Wd (x : List UInt8) : Prop := tw x = some ⟨1, x, 0, 0⟩
theorem Wd.kw (h : Wd x) : Kw x := ⟨1, 0, h, .inl rfl⟩
theorem Has.kw (h : Has ts p (x :: r)) (hx : Kw x) (y : List UInt8) : isW ts p y = decide (x = y) := by
  obtain ⟨k, a, h1, h2⟩ := hx
  exact has_W h h1 h2 y
theorem kw_of {x : List UInt8} {k : Nat} (h : tw x = some ⟨k, x, 0, 0⟩) (hk : k = 1 ∨ k = 4) : Kw x := ⟨k, 0, h, hk⟩
theorem tw_fetch : tw wFetch = some ⟨1, wFetch, 0, 0⟩ := by decide +kernel
theorem tw_from : tw wFrom = some ⟨1, wFrom, 0, 0⟩ := by decide +kernel
theorem tw_to : tw wTo = some ⟨1, wTo, 0, 0⟩ := by decide +kernel
theorem tw_by : tw wBy = some ⟨1, wBy, 0, 0⟩ := by decide +kernel
theorem tw_or : tw wOr = some ⟨1, wOr, 0, 0⟩ := by decide +kernel
theorem tw_and : tw wAnd = some ⟨1, wAnd, 0, 0⟩ := by decide +kernel
theorem tw_not : tw wNot = some ⟨1, wNot, 0, 0⟩ := by decide +kernel
theorem tw_has : tw wHas = some ⟨1, wHas, 0, 0⟩ := by decide +kernel
theorem tw_bar : tw wBar = some ⟨4, wBar, 0, 0⟩ := by decide +kernel
theorem tw_comma : tw wComma = some ⟨4, wComma, 0, 0⟩ := by decide +kernel
theorem tw_open : tw wOpen = some ⟨4, wOpen, 0, 0⟩ := by decide +kernel
theorem tw_shut : tw wShut = some ⟨4, wShut, 0, 0⟩ := by decide +kernel
theorem tw_colon : tw wColon = some ⟨4, wColon, 0, 0⟩ := by decide +kernel
theorem tw_steps : ∀ k : Fin 7, tw (stepW.getD k.1 []) = some ⟨1, stepW.getD k.1 [], 0, 0⟩ := by decide +kernel
theorem tw_aggs : ∀ k : Fin 6, tw (aggW.getD k.1 []) = some ⟨1, aggW.getD k.1 [], 0, 0⟩ := by decide +kernel
theorem tw_hows : ∀ k : Fin 6, tw (howW.getD k.1 []) = some ⟨4, howW.getD k.1 [], 0, 0⟩ := by decide +kernel
theorem tw_bools : ∀ k : Fin 2, tw (boolW.getD k.1 []) = some ⟨1, boolW.getD k.1 [], 0, 0⟩ := by decide +kernel
theorem Wd.not_open (h : Wd x) : x ≠ wOpen := fun e => by subst e; unfold Wd at h; rw [tw_open] at h; cases h
theorem Wd.not_colon (h : Wd x) : x ≠ wColon := fun e => by subst e; unfold Wd at h; rw [tw_colon] at h; cases h
theorem has_take (h : Has ts p (x :: r)) (ht : tw x = some t) {k : Int} (hk : (t.kind : Int) = k) : takeS ts k p = .ok (hereS ts p) (p + 1) := by
  unfold takeS; rw [has_K h ht, decide_eq_true hk]; rfl
theorem has_name (h : Has ts p (x :: r)) (hx : Wd x) : nameS ts p = .ok x (p + 1) := by
  unfold nameS
  rw [has_take h hx (k := 1) rfl]
  show Rs.ok (hereS ts p).s (p + 1) = _
  rw [(has_here h hx).1]
theorem tw_num {n : Int} (hn : In64 n) : tw (Lib.itoa n) = some ⟨2, [], n, 0⟩ := by unfold tw; rw [num_lex n hn]
theorem has_num {n : Int} (hn : In64 n) (h : Has ts p (Lib.itoa n :: r)) : numS' ts p = .ok n (p + 1) := by
  unfold numS'
  rw [has_take h (tw_num hn) (k := 2) rfl]
  show Rs.ok (hereS ts p).n (p + 1) = _
  rw [(has_here h (tw_num hn)).2]
theorem tw_text {s : List UInt8} (hs : s.length ≤ 64) : tw (quoted s) = some ⟨3, s, 0, 0⟩ := by unfold tw; rw [lex_quoted hs]
theorem has_text {s : List UInt8} (hs : s.length ≤ 64) (h : Has ts p (quoted s :: r)) : textV ts p = .ok (2, 0, s) (p + 1) := by
  unfold textV
  rw [has_take h (tw_text hs) (k := 3) rfl]
  show Rs.ok (2, 0, (hereS ts p).s) (p + 1) = _
  rw [(has_here h (tw_text hs)).1]
theorem has_want (h : Has ts p (x :: r)) (hx : Kw x) : wantS ts x p = .ok () (p + 1) := by
  unfold wantS; rw [h.kw hx, if_pos (by simp)]
def idxL (s : List UInt8) : List (List UInt8) → Nat → Option Nat
  | [], _ => none
  | y :: r, k => if s = y then some k else idxL s r (k + 1)
theorem has_idx {s : List UInt8} (h : ∀ y, isW ts p y = decide (s = y)) : ∀ (ws : List (List UInt8)) (k : Nat), idxOf ts p ws k = idxL s ws k
  | [], _ => rfl
  | y :: r, k => by
    unfold idxOf idxL
    rw [h y, has_idx h r (k + 1)]
    by_cases e : s = y <;> simp [e]
theorem has_oneOf {ws : List (List UInt8)} {k : Nat} (h : Has ts p (x :: r)) (hx : Kw x) (hk : idxL x ws 0 = some k) : oneOfS ts ws p = .ok k (p + 1) := by
  unfold oneOfS
  rw [has_idx (h.kw hx), hk]
/- A list. -/
theorem sepL_cons {α : Type} (P : α → List (List UInt8)) (x : α) : ∀ xs : List α, sepL ((x :: xs).map P) = P x ++ xs.flatMap (fun y => wComma :: P y)
  | [] => by simp [sepL]
  | y :: r => by
    have := sepL_cons P y r
    simp only [List.map_cons, sepL, List.flatMap_cons] at this ⊢
    rw [this]; simp
theorem has_more {α : Type} {one : Nat → Rs α} {P : α → List (List UInt8)} : ∀ (xs acc : List α) (p f : Nat), (∀ x ∈ xs, ∀ p r, Has ts p (P x ++ r) → one p = .ok x (p + (P x).length)) → Has ts p (xs.flatMap (fun y => wComma :: P y)) → isW ts (p + (xs.flatMap (fun y => wComma :: P y)).length) wComma = false → xs.length ≤ f → moreS ts one f acc p = .ok (acc ++ xs) (p + (xs.flatMap (fun y => wComma :: P y)).length)
  | [], acc, p, f, _, _, hn, _ => by
    simp only [List.flatMap_nil, List.length_nil, Nat.add_zero, List.append_nil] at hn ⊢
    cases f with
    | zero => rfl
    | succ f => unfold moreS; rw [hn]; rfl
  | x :: xs, acc, p, f, ho, h, hn, hf => by
    cases f with
    | zero => simp at hf
    | succ f =>
      simp only [List.flatMap_cons] at h hn ⊢
      have e : (wComma :: P x ++ xs.flatMap (fun y => wComma :: P y)) = wComma :: (P x ++ xs.flatMap (fun y => wComma :: P y)) := rfl
      rw [e] at h hn ⊢
      unfold moreS
      rw [h.kw (kw_of tw_comma (.inr rfl)), if_pos (by simp), ho x (by simp) (p + 1) _ h.tl]
      show moreS ts one f (acc ++ [x]) (p + 1 + (P x).length) = _
      have := has_more xs (acc ++ [x]) (p + 1 + (P x).length) f (fun y hy => ho y (by simp [hy])) h.tl.right (by
        rw [← hn]; congr 1; simp only [List.length_cons, List.length_append]; omega) (by simp at hf; omega)
      rw [this]
      congr 1
      · simp
      · simp only [List.length_cons, List.length_append]; omega
theorem has_list {α : Type} {one : Nat → Rs α} {P : α → List (List UInt8)} {y : α} {xs : List α} (ho : ∀ x ∈ y :: xs, ∀ p r, Has ts p (P x ++ r) → one p = .ok x (p + (P x).length)) (h : Has ts p (sepL ((y :: xs).map P))) (hn : isW ts (p + (sepL ((y :: xs).map P)).length) wComma = false) : listS ts one p = .ok (y :: xs) (p + (sepL ((y :: xs).map P)).length) := by
  rw [sepL_cons] at h hn ⊢
  unfold listS
  rw [ho y (by simp) p _ h]
  show moreS ts one ts.length [y] (p + (P y).length) = _
  have hf : xs.length ≤ ts.length := by
    by_cases hx : xs = []
    · subst hx; simp
    · have h2 := h.right.le (by
        intro e; have := congrArg List.length e
        cases xs with
        | nil => exact hx rfl
        | cons z zs => simp at this)
      have : ∀ zs : List α, zs.length ≤ (zs.flatMap (fun y => wComma :: P y)).length := by
        intro zs
        induction zs with
        | nil => simp
        | cons z zs ih => simp only [List.flatMap_cons, List.length_append, List.length_cons]; omega
      have := this xs
      omega
  have := has_more xs [y] (p + (P y).length) ts.length (fun x hx => ho x (by simp [hx])) h.right (by rw [← hn]; congr 1; rw [List.length_append]; omega) hf
  rw [this]
  congr 1
  rw [List.length_append]; omega
end
end Go.Proofs.YtmpjmimhoikknaaGreatDoor
namespace Go.Proofs.YtmpjmimhoikknaaGreatDoor

theorem esc_same : ∀ l : List UInt8, VN.esc l = esc l
  | [] => rfl
  | c :: r => by
    have := esc_same r
    show VN.escC c ++ VN.esc r = escC c ++ esc r
    rw [this]
    congr 1
    rcases nSl_cases c with ⟨h1, h2⟩ | ⟨h1, h2, h3, h4⟩
    · rw [h2]; unfold VN.escC
      rw [if_pos]
      simp [nSl] at h1
      rcases h1 with h | h
      · left; exact UInt8.toNat_inj.1 (by simpa using h)
      · right; exact UInt8.toNat_inj.1 (by simpa using h)
    · rw [h2]; unfold VN.escC
      rw [if_neg]
      rintro (h | h)
      · exact h3 (by rw [h]; rfl)
      · exact h4 (by rw [h]; rfl)
/- The values that there may be in a text. -/
def Vv (k n : Int) (s : List UInt8) : Prop := (k = 1 ∧ In64 n ∧ s = []) ∨ (k = 2 ∧ n = 0 ∧ s.length ≤ 64) ∨ (k = 3 ∧ (n = 0 ∨ n = 1) ∧ s = [])
theorem vt_int {n : Np} (h1 : n.vk = 1) (h2 : n.vs = []) : vtN n = Lib.itoa n.vn := by
  unfold vtN
  have : VN.validB n.vk n.vn (St n.vs) 0 0 0 0 0 0 0 0 = true := by rw [h1, h2]; simp [VN.validB, VN.zeroH, eqH, VN.noText, St]
  rw [this, if_pos rfl]; unfold VN.textV; rw [if_pos h1]
theorem vt_str {n : Np} (h1 : n.vk = 2) (h2 : n.vn = 0) (h3 : n.vs.length ≤ 64) : vtN n = quoted n.vs := by
  unfold vtN
  have : VN.validB n.vk n.vn (St n.vs) 0 0 0 0 0 0 0 0 = true := by rw [h1, h2]; simp [VN.validB, VN.zeroH, eqH, St_size, h3]
  rw [this, if_pos rfl]; unfold VN.textV; rw [if_neg (by rw [h1]; decide), if_pos h1, St_toList, esc_same]; rfl
theorem vt_bool {n : Np} (h1 : n.vk = 3) (h2 : n.vn = 0 ∨ n.vn = 1) (h3 : n.vs = []) : vtN n = boolW.getD n.vn.toNat [] := by
  unfold vtN
  have : VN.validB n.vk n.vn (St n.vs) 0 0 0 0 0 0 0 0 = true := by rw [h1, h3]; rcases h2 with h | h <;> (rw [h]; simp [VN.validB, VN.zeroH, eqH, VN.noText, St])
  rw [this, if_pos rfl]; unfold VN.textV; rw [if_neg (by rw [h1]; decide), if_neg (by rw [h1]; decide), if_pos h1]
  rcases h2 with h | h <;> (rw [h]; rfl)
section
variable {ts : List Tp} {p : Nat} {r : List (List UInt8)}
theorem has_value {n : Np} (hv : Vv n.vk n.vn n.vs) (h : Has ts p (vtN n :: r)) : valueS ts p = .ok (n.vk, n.vn, n.vs) (p + 1) := by
  unfold valueS
  rcases hv with ⟨h1, h2, h3⟩ | ⟨h1, h2, h3⟩ | ⟨h1, h2, h3⟩
  · rw [vt_int h1 h3] at h
    rw [has_K h (tw_num h2)]
    rw [if_pos (by simp), has_num h2 h, h1, h3]; rfl
  · rw [vt_str h1 h2 h3] at h
    rw [has_K h (tw_text h3), has_K h (tw_text h3)]
    rw [if_neg (by simp), if_pos (by simp), has_text h3 h, h1, h2]
  · rw [vt_bool h1 h2 h3] at h
    rcases h2 with h2 | h2
    · rw [h2] at h
      have ht := tw_bools 0
      rw [has_K h ht, has_K h ht, if_neg (by decide), if_neg (by decide), has_oneOf (k := 0) h (kw_of ht (.inl rfl)) (by decide), h1, h2, h3]; rfl
    · rw [h2] at h
      have ht := tw_bools 1
      rw [has_K h ht, has_K h ht, if_neg (by decide), if_neg (by decide), has_oneOf (k := 1) h (kw_of ht (.inl rfl)) (by decide), h1, h2, h3]; rfl
/- A test's node. -/
def TestN (n : Np) : Prop := Wd n.s ∧ n.s ≠ wNot ∧ ((n = { n0 with kind := 15, s := n.s, vk := 2, vn := 0, vs := n.vs } ∧ n.vs.length ≤ 64) ∨ (n = { n0 with kind := 14, s := n.s, n := n.n, vk := n.vk, vn := n.vn, vs := n.vs } ∧ (1 ≤ n.n ∧ n.n ≤ 6) ∧ Vv n.vk n.vn n.vs))
def testW (n : Np) : List (List UInt8) := if n.kind = 14 then [n.s, wordL howL n.n, vtN n] else [n.s, wHas, quoted n.vs]
theorem how_at {k : Int} (h : 1 ≤ k ∧ k ≤ 6) : ∃ j : Fin 6, k = 1 + (j.1 : Int) ∧ wordL howL k = howW.getD j.1 [] := by
  have : k = 1 ∨ k = 2 ∨ k = 3 ∨ k = 4 ∨ k = 5 ∨ k = 6 := by omega
  rcases this with rfl | rfl | rfl | rfl | rfl | rfl
  · exact ⟨0, rfl, rfl⟩
  · exact ⟨1, rfl, rfl⟩
  · exact ⟨2, rfl, rfl⟩
  · exact ⟨3, rfl, rfl⟩
  · exact ⟨4, rfl, rfl⟩
  · exact ⟨5, rfl, rfl⟩
theorem idx_hows : ∀ j : Fin 6, idxL (howW.getD j.1 []) howW 0 = some j.1 := by decide
theorem idx_aggs : ∀ j : Fin 6, idxL (aggW.getD j.1 []) aggW 0 = some j.1 := by decide
theorem idx_steps : ∀ j : Fin 7, idxL (stepW.getD j.1 []) stepW 0 = some j.1 := by decide
theorem how_has : ∀ j : Fin 6, howW.getD j.1 [] ≠ wHas := by decide
theorem has_test {n : Np} (hn : TestN n) (h : Has ts p (testW n ++ r)) : testS ts p = .ok n (p + 3) := by
  obtain ⟨h1, -, h2⟩ := hn
  unfold testS
  rcases h2 with ⟨he, hs⟩ | ⟨he, hk, hv⟩
  · have hk : ¬ n.kind = 14 := by rw [he]; simp
    unfold testW at h
    rw [if_neg hk] at h
    rw [has_name h h1]
    show (if isW ts (p + 1) wHas = true then _ else _) = _
    rw [h.tl.kw (kw_of tw_has (.inl rfl)), if_pos (by simp), has_text hs h.tl.tl]
    conv => rhs; rw [he]
    rfl
  · have hkd : n.kind = 14 := by rw [he]
    unfold testW at h
    rw [if_pos hkd] at h
    obtain ⟨j, hj, hw⟩ := how_at hk
    rw [hw] at h
    rw [has_name h h1]
    show (if isW ts (p + 1) wHas = true then _ else _) = _
    rw [h.tl.kw (kw_of (tw_hows j) (.inr rfl)), if_neg (by simpa using how_has j), has_oneOf h.tl (kw_of (tw_hows j) (.inr rfl)) (idx_hows j)]
    show (valueS ts (p + 1 + 1)).and _ = _
    rw [has_value hv h.tl.tl]
    conv => rhs; rw [he, hj]
    rfl
/- A list of names, of aggregates. -/
theorem has_names {y : List UInt8} {xs : List (List UInt8)} (hx : ∀ x ∈ y :: xs, Wd x) (h : Has ts p (sepL (nameP (y :: xs)) ++ r)) (hn : isW ts (p + (sepL (nameP (y :: xs))).length) wComma = false) : listS ts (nameS ts) p = .ok (y :: xs) (p + (sepL (nameP (y :: xs))).length) :=
  has_list (P := fun x => [x]) (fun x hm _ _ h => has_name h (hx x hm)) h.left hn
def AggN (a : Int × List UInt8) : Prop := a = (1, []) ∨ ((2 ≤ a.1 ∧ a.1 ≤ 6) ∧ Wd a.2)
theorem agg_atR {k : Int} (h : 2 ≤ k ∧ k ≤ 6) : ∃ j : Fin 6, k = 1 + (j.1 : Int) ∧ j.1 ≠ 0 ∧ wordL aggL k = aggW.getD j.1 [] := by
  have : k = 2 ∨ k = 3 ∨ k = 4 ∨ k = 5 ∨ k = 6 := by omega
  rcases this with rfl | rfl | rfl | rfl | rfl
  · exact ⟨1, rfl, by decide, rfl⟩
  · exact ⟨2, rfl, by decide, rfl⟩
  · exact ⟨3, rfl, by decide, rfl⟩
  · exact ⟨4, rfl, by decide, rfl⟩
  · exact ⟨5, rfl, by decide, rfl⟩
theorem has_agg {a : Int × List UInt8} (ha : AggN a) (h : Has ts p (aggP1 a ++ r)) : aggS ts p = .ok a (p + (aggP1 a).length) := by
  unfold aggS
  rcases ha with rfl | ⟨hk, hw⟩
  · have h2 : Has ts p (aggW.getD (0 : Fin 6).1 [] :: r) := h
    rw [has_oneOf h2 (kw_of (tw_aggs 0) (.inl rfl)) (idx_aggs 0)]; rfl
  · obtain ⟨j, hj, h0, hw2⟩ := agg_atR hk
    have e : aggP1 a = [aggW.getD j.1 [], a.2] := by unfold aggP1; rw [if_neg (by omega), hw2]
    rw [e] at h ⊢
    rw [has_oneOf h (kw_of (tw_aggs j) (.inl rfl)) (idx_aggs j)]
    show (if j.1 = 0 then _ else _) = _
    rw [if_neg h0, has_name h.tl hw]
    show Rs.ok (1 + (j.1 : Int), a.2) (p + 1 + 1) = _
    rw [← hj]; rfl
theorem has_aggs {y : Int × List UInt8} {xs : List (Int × List UInt8)} (hx : ∀ x ∈ y :: xs, AggN x) (h : Has ts p (sepL (aggP (y :: xs)) ++ r)) (hn : isW ts (p + (sepL (aggP (y :: xs))).length) wComma = false) : listS ts (aggS ts) p = .ok (y :: xs) (p + (sepL (aggP (y :: xs))).length) :=
  has_list (P := aggP1) (fun x hm _ _ h => has_agg (hx x hm) h) h.left hn
/- A fetch. -/
def FetchN (n : Np) : Prop := n = { n0 with kind := 1, s := n.s, from_ := n.from_, to_ := n.to_ } ∧ Wd n.s ∧ In64 n.from_ ∧ In64 n.to_
theorem has_fetch {n : Np} (hn : FetchN n) (h : Has ts p (fetchW n ++ r)) (hf : isW ts (p + (fetchW n).length) wFrom = false) : fetchS ts p = .ok n (p + (fetchW n).length) := by
  obtain ⟨he, hw, h1, h2⟩ := hn
  unfold fetchS
  by_cases hc : n.from_ = 0 ∧ n.to_ = 1099511627775
  · have e : fetchW n = [wFetch, n.s] := by unfold fetchW; rw [if_pos hc]; rfl
    rw [e] at h hf ⊢
    rw [has_want h (kw_of tw_fetch (.inl rfl))]
    show (nameS ts (p + 1)).and _ = _
    rw [has_name h.tl hw]
    show (if isW ts (p + 1 + 1) wFrom = true then _ else _) = _
    rw [show p + 1 + 1 = p + [wFetch, n.s].length from rfl, hf]
    show Rs.ok _ _ = _
    conv => rhs; rw [he, hc.1, hc.2]
    rfl
  · have e : fetchW n = [wFetch, n.s, wFrom, Lib.itoa n.from_, wTo, Lib.itoa n.to_] := by unfold fetchW; rw [if_neg hc]; rfl
    rw [e] at h hf ⊢
    rw [has_want h (kw_of tw_fetch (.inl rfl))]
    show (nameS ts (p + 1)).and _ = _
    rw [has_name h.tl hw]
    show (if isW ts (p + 1 + 1) wFrom = true then _ else _) = _
    rw [h.tl.tl.kw (kw_of tw_from (.inl rfl)), if_pos (by simp), has_num h1 h.tl.tl.tl]
    show (wantS ts wTo _).and _ = _
    rw [has_want h.tl.tl.tl.tl (kw_of tw_to (.inl rfl))]
    show (numS' ts _).and _ = _
    rw [has_num h2 h.tl.tl.tl.tl.tl]
    show Rs.ok _ _ = _
    conv => rhs; rw [he]
    rfl
end
end Go.Proofs.YtmpjmimhoikknaaGreatDoor
