/-
  Lex of two texts, the second of which begins with what ends a token.
  A printed text is cut into its words' tokens.
  The reference's reader: a test, as mathematics.
  The reference's reader: a test.
  The reference's reader takes aggregates: what it keeps.
-/
import Derived.Test.YtmpjmimhoikknaaGreatDoorK17
import Derived.Test.YtmpjmimhoikknaaGreatDoorK31
import Derived.Test.YtmpjmimhoikknaaGreatDoorK32
namespace Go.Proofs.YtmpjmimhoikknaaGreatDoor
open Go.RowKit Go.Joins

def Sep (b : UInt8) : Prop := isWd b = false ∧ isDg b = false ∧ ¬ (61 : UInt8) = b
theorem sign_sep {b c : UInt8} (hb : Sep b) (xs r : List UInt8) : signS (c :: xs ++ b :: r) = signS (c :: xs) := by
  have hb61 := hb.2.2
  have e : ∀ x ∈ signsL, x.isPrefixOf (c :: xs ++ b :: r) = x.isPrefixOf (c :: xs) := by
    intro x hx
    simp only [signsL, List.mem_cons, List.not_mem_nil, or_false] at hx
    rcases hx with h | h | h | h | h | h | h | h | h | h | h <;> subst h <;> cases xs <;> simp [List.isPrefixOf, hb61]
  unfold signS
  have : signsL.find? (fun x => x.isPrefixOf (c :: xs ++ b :: r)) = signsL.find? (fun x => x.isPrefixOf (c :: xs)) := by
    generalize signsL = L at *
    induction L with
    | nil => rfl
    | cons y L ih =>
      rw [List.find?_cons, List.find?_cons, e y (by simp), ih (fun x hx => e x (by simp [hx]))]
  rw [this]
theorem first_sep {xs : List UInt8} {t : Tk} {n : Nat} {b : UInt8} (hb : Sep b) (r : List UInt8) (h : firstS xs = some (t, n)) : firstS (xs ++ b :: r) = some (t, n) := by
  have hp := firstS_pos h
  cases xs with
  | nil => simp [firstS] at h
  | cons c xs =>
    rw [List.cons_append]
    unfold firstS at h ⊢
    simp only at h ⊢
    split at h
    · rename_i h1
      rw [if_pos h1]
      unfold wordS at h ⊢
      rw [← List.cons_append, spanN_app isWd b (hb.1)]
      have hle := spanN_le isWd (c :: xs)
      split at h
      · cases h
      · rename_i h2
        rw [if_neg h2, List.take_append_of_le_length hle]; exact h
    · rename_i h1
      rw [if_neg h1]
      split at h
      · rename_i h2
        rw [if_pos h2]
        have hng : neg1 (c :: (xs ++ b :: r)) = neg1 (c :: xs) := rfl
        have hsg : sgn1 (c :: (xs ++ b :: r)) = sgn1 (c :: xs) := rfl
        have hdg : digitsOf (c :: (xs ++ b :: r)) = digitsOf (c :: xs) ++ b :: r := by
          unfold digitsOf; rw [hng]; split <;> rfl
        unfold numS at h ⊢
        rw [hng, hsg, hdg, spanN_app isWd b (hb.1), spanN_app isDg b (hb.2.1)]
        have hle := spanN_le isDg (digitsOf (c :: xs))
        split at h
        · cases h
        · rename_i h3
          rw [if_neg h3]
          have hne : digitsOf (c :: xs) ≠ [] := fun e => by
            rw [e] at h3; exact h3 (.inl rfl)
          have hh : (digitsOf (c :: xs) ++ b :: r).head? = (digitsOf (c :: xs)).head? := by
            cases hx : digitsOf (c :: xs) with
            | nil => exact absurd hx hne
            | cons y ys => rfl
          rw [hh]
          split at h
          · cases h
          · rename_i h4
            rw [if_neg h4, List.take_append_of_le_length hle]; exact h
      · rename_i h2
        rw [if_neg h2]
        split at h
        · rename_i h3
          rw [if_pos h3]
          unfold textS at h ⊢
          simp only [List.tail_cons] at h ⊢
          split at h
          · rename_i e1
            rw [txt_app xs (b :: r) _ _ _ _ e1]; exact h
          · cases h
        · rename_i h3
          rw [if_neg h3, ← List.cons_append, sign_sep hb]; exact h
theorem lexA_sep {b : UInt8} (hb : Sep b) (r : List UInt8) : ∀ (f : Nat) (xs : List UInt8) (a : Nat) (ts : List Tk), xs.length ≤ f → lexA a xs = .inr ts → lexA a (xs ++ b :: r) = joinT ts (lexA (a + xs.length) (b :: r))
  | _, [], a, ts, _, h => by
    rw [lexA_nil] at h; cases h
    simp only [List.nil_append, List.length_nil, Nat.add_zero]
    cases lexA a (b :: r) <;> rfl
  | 0, c :: xs, a, ts, hf, _ => by simp at hf
  | f + 1, c :: xs, a, ts, hf, h => by
    cases hc : isBl c with
    | true =>
      rw [lexA_bl a xs hc] at h
      rw [List.cons_append, lexA_bl a _ hc, lexA_sep hb r f xs (a + 1) ts (by simpa using hf) h]
      simp [Nat.add_assoc, Nat.add_comm 1]
    | false =>
      cases hfi : firstS (c :: xs) with
      | none => rw [lexA_no a hc hfi] at h; cases h
      | some x =>
        obtain ⟨t, n⟩ := x
        have hp := firstS_pos hfi
        rw [lexA_some a hc hfi] at h
        have hfa := first_sep hb r hfi
        rw [List.cons_append] at hfa ⊢
        rw [lexA_some a hc hfa, ← List.cons_append, List.drop_append_of_le_length hp.2]
        cases hr : lexA (a + n) ((c :: xs).drop n) with
        | inl e => rw [hr] at h; cases h
        | inr m =>
          rw [hr] at h
          cases h
          rw [lexA_sep hb r f _ _ m (by simp at hf ⊢; omega) hr, List.length_drop, show a + n + ((c :: xs).length - n) = a + (c :: xs).length by omega]
          cases lexA (a + (c :: xs).length) (b :: r) <;> rfl
end Go.Proofs.YtmpjmimhoikknaaGreatDoor
namespace Go.Proofs.YtmpjmimhoikknaaGreatDoor

theorem tw_lex {s : List UInt8} {t : Tk} (h : tw s = some t) : lexA 0 s = .inr [t] := by
  unfold tw at h
  split at h
  · rename_i u hu
    cases h
    unfold lexO at hu
    split at hu
    · cases hu
    · split at hu
      · cases hu
      · rename_i m e
        have : m = [t] := hu
        rw [e, this]
  · cases h
theorem first_open (r : List UInt8) : firstS (40 :: r) = some (⟨4, [40], 0, 0⟩, 1) := by
  show (if isLe 40 = true then wordS (40 :: r) else if ((40 : UInt8) == 45 || isDg 40) = true then numS (40 :: r) else if ((40 : UInt8) == 34) = true then textS (40 :: r) else signS (40 :: r)) = _
  rw [if_neg (by decide), if_neg (by decide), if_neg (by decide)]
  unfold signS signsL
  simp [List.find?, List.isPrefixOf]
theorem sep_bytes : Sep 32 ∧ Sep 41 ∧ Sep 44 := by unfold Sep; decide
theorem jw_head {s : List UInt8} {r : List (List UInt8)} (hs : s ≠ wOpen) (hr : r ≠ []) : ∃ b r', jw (some s) r = b :: r' ∧ Sep b := by
  cases r with
  | nil => exact absurd rfl hr
  | cons x r =>
    show ∃ b r', sepT (some s) x ++ x ++ jw (some x) r = b :: r' ∧ Sep b
    have e : sepT (some s) x = if s = wOpen ∨ x = wShut ∨ x = wComma then [] else [32] := rfl
    rw [e]
    by_cases h : s = wOpen ∨ x = wShut ∨ x = wComma
    · rw [if_pos h]
      rcases h with h | h | h
      · exact absurd h hs
      · subst h; exact ⟨41, _, rfl, sep_bytes.2.1⟩
      · subst h; exact ⟨44, _, rfl, sep_bytes.2.2⟩
    · rw [if_neg h]
      exact ⟨32, _, rfl, sep_bytes.1⟩
theorem lexA_jw : ∀ (ws : List (List UInt8)) (tks : List Tk) (p : Option (List UInt8)) (a : Nat), tkS ws = some tks → ∃ us, lexA a (jw p ws) = .inr us ∧ us.map sig = tks.map sig
  | [], tks, p, a, h => by cases h; exact ⟨[], rfl, rfl⟩
  | s :: r, tks, p, a, h => by
    obtain ⟨t, us, ht, hu, rfl⟩ : ∃ t us, tw s = some t ∧ tkS r = some us ∧ tks = t :: us := by
      unfold tkS at h
      split at h
      · rename_i t ht
        cases e : tkS r with
        | none => rw [e] at h; cases h
        | some us => rw [e] at h; cases h; exact ⟨t, us, by unfold tw; rw [ht], rfl, rfl⟩
      · cases h
    have key : ∀ a, ∃ vs, lexA a (s ++ jw (some s) r) = .inr vs ∧ vs.map sig = (t :: us).map sig := by
      intro a
      obtain ⟨m, hm1, hm2⟩ := lexA_move s.length s 0 a [t] (Nat.le_refl _) (tw_lex ht)
      by_cases hr : r = []
      · subst hr
        cases hu
        exact ⟨m, by show lexA a (s ++ []) = _; rw [List.append_nil]; exact hm1, hm2⟩
      · by_cases ho : s = wOpen
        · subst ho
          obtain ⟨vs, h1, h2⟩ := lexA_jw r us (some wOpen) (a + 1) hu
          have ht' : t = ⟨4, wOpen, 0, 0⟩ := by rw [tw_open] at ht; cases ht; rfl
          refine ⟨⟨4, [40], 0, a⟩ :: vs, ?_, by rw [ht']; simp [h2, sig, wOpen]⟩
          show lexA a (40 :: jw (some wOpen) r) = _
          rw [lexA_some a (by decide) (first_open _)]
          show (match lexA (a + 1) (jw (some wOpen) r) with | .inl e => _ | .inr l => _) = _
          rw [h1]
        · obtain ⟨b, r', hb, hsep⟩ := jw_head ho hr
          obtain ⟨vs, h1, h2⟩ := lexA_jw r us (some s) (a + s.length) hu
          refine ⟨m ++ vs, ?_, by rw [List.map_append, hm2, h2]; rfl⟩
          rw [hb] at h1 ⊢
          rw [lexA_sep hsep r' s.length s a m (Nat.le_refl _) hm1, h1]; rfl
    show ∃ us', lexA a (sepT p s ++ s ++ jw (some s) r) = .inr us' ∧ _
    have : sepT p s = [] ∨ sepT p s = [32] := by
      unfold sepT
      split
      · exact .inl rfl
      · split
        · exact .inl rfl
        · exact .inr rfl
    rcases this with e | e
    · rw [e, List.nil_append]; exact key a
    · rw [e]
      obtain ⟨vs, h1, h2⟩ := key (a + 1)
      exact ⟨vs, by rw [List.append_assoc, List.singleton_append, lexA_bl a _ (by decide)]; exact h1, h2⟩
theorem has_sig {ws : List (List UInt8)} {tks us : List Tk} (h : tkS ws = some tks) (hs : us.map sig = tks.map sig) : Has (us.map tp) 0 ws ∧ us.length = ws.length := by
  obtain ⟨h1, h2⟩ := has_toks ws tks h
  have hl : us.length = tks.length := by have := congrArg List.length hs; simpa using this
  refine ⟨fun j s hj => ?_, by omega⟩
  obtain ⟨t, h3, h4⟩ := h2 j s hj
  have hj' : j < us.length := by have := (List.getElem?_eq_some_iff.1 h4).1; omega
  have h5 : (us.map sig)[j]? = some (sig t) := by rw [hs, List.getElem?_map, h4]; rfl
  rw [List.getElem?_map, List.getElem?_eq_getElem hj'] at h5
  have h6 : sig us[j] = sig t := Option.some.inj h5
  simp only [sig, Prod.mk.injEq] at h6
  refine ⟨t, tp us[j], h3, by rw [Nat.zero_add, List.getElem?_map, List.getElem?_eq_getElem hj']; rfl, ?_, h6.2.1, h6.2.2⟩
  show ((us[j].kind : Nat) : Int) = _
  rw [h6.1]
theorem cond_read {s : List Np} (hc : Cd s) (h1 : C1 16 s) (hw : (wq s).length ≤ 1024) (hn : s.length ≤ 128) (hj : (jw none (wq s)).length ≤ 2048) : ∃ us, lexO (jw none (wq s)) = (us, 0, 0) ∧ wholeS (us.map tp) (condS (us.map tp) 16) = (s, 0, 0) := by
  obtain ⟨tks, ht⟩ := toks_all (wq s) hc.tw
  obtain ⟨us, hu, hs⟩ := lexA_jw _ tks none 0 ht
  obtain ⟨hh, hl⟩ := has_sig ht hs
  refine ⟨us, lexO_ok (by omega) hu, ?_⟩
  have hend : ∀ x, isW (us.map tp) (0 + (wq s).length) x = false := fun x => none_W (by rw [List.length_map, hl]; omega) x
  obtain ⟨f, hf⟩ := h1 (us.map tp) 0 [] hh (hend _)
  have hs := hf.stop (hend _)
  unfold wholeS
  rw [if_neg (by rw [List.length_map, hl]; omega), show condS (us.map tp) 16 0 [] = .ok (Out [] s) (0 + (wq s).length) from hs, out_nil]
  simp only
  rw [if_neg (by rw [List.length_map, hl]; omega), if_neg (by omega)]
theorem query_read {ns : List Np} (hq : QQ 16 ns) (hw : (wq ns).length ≤ 1024) (hn : ns.length ≤ 128) (hj : (jw none (wq ns)).length ≤ 2048) : queryO (jw none (wq ns)) = (ns, 0, 0) := by
  obtain ⟨tks, ht⟩ := toks_all (wq ns) hq.tw
  obtain ⟨us, hu, hs⟩ := lexA_jw _ tks none 0 ht
  obtain ⟨hh, hl⟩ := has_sig ht hs
  have hend : ∀ x, isW (us.map tp) (0 + (wq ns).length) x = false := fun x => none_W (by rw [List.length_map, hl]; omega) x
  obtain ⟨f, hf⟩ := hq.c (us.map tp) 0 [] hh ⟨hend _, hend _, hend _, hend _⟩
  have hst := hf.stop (hend _)
  have hp : parseS (us.map tp) = (ns, 0, 0) := by
    unfold parseS wholeS
    rw [if_neg (by rw [List.length_map, hl]; omega), hst, out_nil]
    simp only
    rw [if_neg (by rw [List.length_map, hl]; omega), if_neg (by omega)]
  unfold queryO
  rw [lexO_ok (by omega) hu]
  simp only [hp, if_true]
end Go.Proofs.YtmpjmimhoikknaaGreatDoor
namespace Go.Proofs.YtmpjmimhoikknaaGreatDoor
open Go.RowKit Go.Joins

section
variable {ts : List Tp} {d : Option PN} {i j j3 j7 j9 : Nat} {E E3 E7 E9 z9 : Int} {t3 t7 : Tp} {ns ns9 : List Np}
theorem take_ok {k : Int} {t : Tp} {E' : Int} (h : Cm (lf E i (takeS ts k i)) t j E') (hE : E' = 0) : E = 0 ∧ j = i + 1 ∧ takeS ts k i = .ok t j := by
  rcases h with ⟨h, h2⟩ | ⟨h, h2⟩
  · exact absurd hE h2
  · unfold lf at h
    split at h
    · rename_i hE0
      refine ⟨hE0, ?_, h⟩
      unfold takeS at h
      split at h
      · cases h; rfl
      · cases h
    · cases h
theorem not_test (hn : isW ts i wNot = false) (hw : isW ts i wOpen = false) : lf 0 i (notB ts d i ns) = (testS ts i).and fun n j => .ok (ns.length, ns ++ [n]) j := by
  unfold lf notB; rw [if_pos rfl, hn, hw, if_neg (by decide), if_neg (by decide)]
theorem test_nm (h : takeS ts 1 i = .ok t3 j3) : testS ts i = if isW ts j3 wHas then (textV ts (j3 + 1)).and fun v j => .ok { n0 with kind := 15, s := t3.s, vk := v.1, vn := v.2.1, vs := v.2.2 } j
  else (oneOfS ts howW j3).and fun k j => (valueS ts j).and fun v j => .ok { n0 with kind := 14, s := t3.s, n := 1 + (k : Int), vk := v.1, vn := v.2.1, vs := v.2.2 } j := by
  unfold testS nameS; rw [h]; rfl
theorem test_has (hn : isW ts i wNot = false) (hw : isW ts i wOpen = false) (h3 : Cm (lf 0 i (takeS ts 1 i)) t3 j3 E3) (hh : isE E3 ts j3 wHas = true) (h7 : Cm (lf E3 (j3 + 1) (takeS ts 3 (j3 + 1))) t7 j7 E7)
    (h9 : Cm2 (lf E7 j7 (.ok (ns.length, ns ++ [{ n0 with kind := 15, s := t3.s, vk := 2, vn := 0, vs := t7.s }]) j7)) z9 ns9 j9 E9) : Cm2 (lf 0 i (notB ts d i ns)) z9 ns9 j9 E9 := by
  have e3 := isE_E hh
  subst e3
  obtain ⟨-, -, h3⟩ := take_ok h3 rfl
  rw [not_test hn hw, test_nm h3, if_pos (isE_W hh)]
  rcases h7 with ⟨h7, hE⟩ | ⟨h7, rfl⟩
  · unfold lf at h7; rw [if_pos rfl] at h7
    unfold lf at h9; rw [if_neg hE] at h9
    unfold textV; rw [h7]; exact h9
  · unfold lf at h7; rw [if_pos rfl] at h7
    unfold lf at h9; rw [if_pos rfl] at h9
    unfold textV; rw [h7]; exact h9
theorem test_bad (hn : isW ts i wNot = false) (hw : isW ts i wOpen = false) (h3 : Cm (lf 0 i (takeS ts 1 i)) t3 j3 E3) (hE : ¬ E3 = 0) : lf 0 i (notB ts d i ns) = .bad j3 E3 := by
  rcases h3 with ⟨h3, -⟩ | ⟨-, h3⟩
  · unfold lf at h3; rw [if_pos rfl] at h3
    rw [not_test hn hw]; unfold testS nameS; rw [h3]; rfl
  · exact absurd h3 hE
theorem idx_nil {ts : List Tp} {j : Nat} : ∀ (ws : List (List UInt8)) (k : Nat), (∀ m, m < ws.length → isW ts j (ws.getD m []) = false) → idxOf ts j ws k = none
  | [], _, _ => rfl
  | x :: r, k, h => by
    unfold idxOf
    have h0 := h 0 (by simp)
    simp only [List.getD_cons_zero] at h0
    rw [h0, if_neg (by decide)]
    exact idx_nil r (k + 1) (fun m hm => by have := h (m + 1) (by simpa using hm); simpa using this)
theorem idx_first {ts : List Tp} {j : Nat} : ∀ (ws : List (List UInt8)) (k n : Nat), n < ws.length → (∀ m, m < n → isW ts j (ws.getD m []) = false) → isW ts j (ws.getD n []) = true → idxOf ts j ws k = some (k + n)
  | [], _, n, h, _, _ => by simp at h
  | x :: r, k, 0, _, _, h2 => by
    unfold idxOf
    simp only [List.getD_cons_zero] at h2
    rw [h2, if_pos rfl]; rfl
  | x :: r, k, n + 1, h, h1, h2 => by
    unfold idxOf
    have h0 := h1 0 (by omega)
    simp only [List.getD_cons_zero] at h0
    rw [h0, if_neg (by decide), idx_first r (k + 1) n (by simpa using h) (fun m hm => by have := h1 (m + 1) (by omega); simpa using this) (by simpa using h2)]
    congr 1; omega
/- The loop over the signs: N is what was found. -/
def LpS (ts : List Tp) (E3 : Int) (j3 k N j : Nat) : Prop :=
  (N = 0 ∧ j = j3 ∧ ∀ m, m < k - 1 → isE E3 ts j3 (howW.getD m []) = false) ∨ (0 < N ∧ N ≤ 6 ∧ E3 = 0 ∧ j = j3 + 1 ∧ oneOfS ts howW j3 = .ok (N - 1) (j3 + 1))
theorem lps_no {k j : Nat} (h : LpS ts E3 j3 k 0 j) (hw : isE E3 ts j3 (howW.getD (k - 1) []) = false) : LpS ts E3 j3 (k + 1) 0 j := by
  rcases h with ⟨h1, h2, h3⟩ | ⟨h1, -⟩
  · refine .inl ⟨rfl, h2, fun m hm => ?_⟩
    rcases Nat.lt_or_ge m (k - 1) with h | h
    · exact h3 m h
    · rw [show m = k - 1 by omega]; exact hw
  · omega
theorem lps_yes {k j : Nat} (h : LpS ts E3 j3 k 0 j) (hk : 1 ≤ k) (hk7 : k < 7) (hw : isE E3 ts j3 (howW.getD (k - 1) []) = true) : LpS ts E3 j3 (k + 1) k (j + 1) := by
  rcases h with ⟨h1, rfl, h3⟩ | ⟨h1, -⟩
  · have hE := isE_E hw
    subst hE
    refine .inr ⟨by omega, by omega, rfl, rfl, ?_⟩
    unfold oneOfS
    rw [idx_first howW 0 (k - 1) (by show k - 1 < 6; omega) (fun m hm => isE_false (h3 m hm) rfl) (isE_W hw), Nat.zero_add]
  · omega
theorem lps_at {k j : Nat} (h : LpS ts E3 j3 k 0 j) : j = j3 := by
  rcases h with ⟨-, h, -⟩ | ⟨h, -⟩
  · exact h
  · omega
theorem test_none {j : Nat} (hn : isW ts i wNot = false) (hw : isW ts i wOpen = false) (h3 : Cm (lf 0 i (takeS ts 1 i)) t3 j3 E3) (hh : isE E3 ts j3 wHas = false) (hl : LpS ts E3 j3 7 0 j) : Cm2 (lf 0 i (notB ts d i ns)) 0 ns j (erS E3 120) := by
  rcases hl with ⟨-, rfl, hl⟩ | ⟨h, -⟩
  · by_cases hE : E3 = 0
    · subst hE
      obtain ⟨-, -, h3⟩ := take_ok h3 rfl
      rw [not_test hn hw, test_nm h3, isE_false hh rfl, if_neg (by decide)]
      unfold oneOfS
      rw [idx_nil howW 0 (fun m hm => isE_false (hl m hm) rfl)]
      exact .inl ⟨rfl, by decide⟩
    · rw [test_bad hn hw h3 hE]
      have e : erS E3 120 = E3 := if_neg hE
      rw [e]; exact .inl ⟨rfl, hE⟩
  · omega
theorem test_cmp {N k j jv : Nat} {Ev : Int} {x : Int × Int × List UInt8} (hn : isW ts i wNot = false) (hw : isW ts i wOpen = false) (h3 : Cm (lf 0 i (takeS ts 1 i)) t3 j3 E3) (hh : isE E3 ts j3 wHas = false) (hl : LpS ts E3 j3 k N j) (hN : 0 < N) (hv : Cm (lf E3 j (valueS ts j)) x jv Ev)
    (h9 : Cm2 (lf Ev jv (.ok (ns.length, ns ++ [{ n0 with kind := 14, s := t3.s, n := (N : Int), vk := x.1, vn := x.2.1, vs := x.2.2 }]) jv)) z9 ns9 j9 E9) : Cm2 (lf 0 i (notB ts d i ns)) z9 ns9 j9 E9 := by
  rcases hl with ⟨h, -⟩ | ⟨-, hN6, rfl, rfl, ho⟩
  · omega
  · obtain ⟨-, -, h3⟩ := take_ok h3 rfl
    rw [not_test hn hw, test_nm h3, isE_false hh rfl, if_neg (by decide), ho]
    have e : (1 : Int) + ((N - 1 : Nat) : Int) = (N : Int) := by omega
    simp only [Rs.and, e]
    rcases hv with ⟨hv, hE⟩ | ⟨hv, rfl⟩
    · unfold lf at hv; rw [if_pos rfl] at hv
      unfold lf at h9; rw [if_neg hE] at h9
      rw [hv]; exact h9
    · unfold lf at hv; rw [if_pos rfl] at hv
      unfold lf at h9; rw [if_pos rfl] at h9
      rw [hv]; exact h9
theorem value_len {j jv : Nat} {Ev : Int} {x : Int × Int × List UInt8} (hv : Cm (lf E j (valueS ts j)) x jv Ev) (hE : Ev = 0) : j + 1 ≤ jv := by
  rcases hv with ⟨-, h⟩ | ⟨h, -⟩
  · exact absurd hE h
  · unfold lf at h
    split at h
    · exact (value_go ts _ _ _ h).1
    · cases h
theorem lps_ge {k N j : Nat} (h : LpS ts E3 j3 k N j) : j3 ≤ j := by
  rcases h with ⟨-, rfl, -⟩ | ⟨-, -, -, rfl, -⟩ <;> omega
end
abbrev hwC : Array Value := #[.string ⟨#[]⟩, .string ⟨#[61]⟩, .string ⟨#[33, 61]⟩, .string ⟨#[60]⟩, .string ⟨#[60, 61]⟩, .string ⟨#[62]⟩, .string ⟨#[62, 61]⟩]
theorem hwC_at (k : Nat) (h1 : 1 ≤ k) (h : k < 7) : hwC[k]? = some (.string (St (howW.getD (k - 1) []))) := by
  match k, h1, h with
  | 1, _, _ => rfl
  | 2, _, _ => rfl
  | 3, _, _ => rfl
  | 4, _, _ => rfl
  | 5, _, _ => rfl
  | 6, _, _ => rfl
end Go.Proofs.YtmpjmimhoikknaaGreatDoor
namespace Go.Proofs.YtmpjmimhoikknaaGreatDoor
open Go.RowKit Go.Joins

section
variable {B : Nat} {ts : List Tp} {w w' : World} {rb : Nat} {tv sv : Value} {E : Int} {o i : Nat} {qs : List Nd}
set_option maxRecDepth 100000 in
set_option maxHeartbeats 2000000 in
theorem rnot_test {d : Option PN} (h : Ry B ts w rb tv sv 0 o i qs) (hn : isW ts i wNot = false) (hw : isW ts i wOpen = false) : Calls Tryz.prog 118 #[dp rb] w (Y2 B ts rb tv sv o w (lf 0 i (notB ts d i (qs.map (·.np))))) := by
  have k0 := h.cell
  have HQL := hid h.ql
  have HLt := hid h.lt
  have HN := hid hn
  have HW := hid hw
  have HS := hid (rsees_no h (x := wNot) hn)
  have hf1 := fld1
  have M1 : Hid True := trivial
  generalize hT : lf 0 i (notB ts d i (qs.map (·.np))) = T at *
  have HTt := hid hT
  clear h hw hn hT
  go_enter Tryz.func118, Tryz.ntmps118
  go_upto_region 15 with (first
    | (refine store_nd (q := bare { n0 with kind := 14, s := t3.s }) rfl _ _ rfl rfl rfl (bare_all _) (alloc_block w3 _) rfl ?_; intro w4 h4 k4; have HB4 := hid (Bn.start2 HQ3.out HK3.out.r (At.refl w sv) HLt.out h4 k4); clear h4 k4)
    | (go_at_call 82; have FIRST := M1; refine HS.out.mono ?_; rintro e w1 ⟨rfl, hq, hk⟩; have HQ1 := hid hq; have HK1 := hid hk; clear hq hk M1 FIRST)
    | (go_at_call 82; refine (rsees_no HQ1.out (x := wOpen) HW.out).mono ?_; rintro e w2 ⟨rfl, hq, hk⟩; have HQ2 := hid hq; have HK2 := hid (HK1.out.trans hk); clear hq hk)
    | (go_at_call 116; refine (rkind_any HQ2.out 1).mono ?_; rintro e w3 ⟨hk, t3, v3, E3, j3, rfl, hv3, hq, hc⟩; obtain rfl := hv3; have HK3 := hid (HK2.out.trans hk); have HQ3 := hid hq; have HC3 := hid hc; clear hk hq hc))
  clear HS HQ1 HK1 HQ2 HK2 HQ3 HK3 k0
  generalize w3.heap.size = nb at *
  cases hh : isE E3 ts j3 wHas with
  | true =>
    have HH := hid hh
    clear hh
    go_wp2_with (first
      | (refine store_nv (c := (2, 0, t7.s)) rfl _ _ rfl rfl rfl HB7.out.b ?_; intro w8 h8 k8; have HB8 := hid (HB7.out.set (q' := bare { n0 with kind := 15, s := t3.s, vk := 2, vn := 0, vs := t7.s }) h8 k8); clear h8 k8)
      | (refine load_node (q := bare { n0 with kind := 15, s := t3.s, vk := 2, vn := 0, vs := t7.s }) rfl _ rfl rfl HB8.out.b ?_)
      | (go_at_call 82; refine (rsees_yes HB4.out.r (x := wHas) HH.out).mono ?_; rintro e w5 ⟨rfl, hq, hk⟩; have HB5 := hid (HB4.out.y1 hk hq); have HB6 := hid (HB5.out.set1 (q' := bare { n0 with kind := 15, s := t3.s }) 0 (.int .i64 15) (by kernel_rfl)); have c5 := block_cell HB5.out.b 0; have z5 := block_frozen HB5.out.b 0; clear hq hk)
      | (go_at_call 116; clear c5 z5; refine (rkind_any HB6.out.r 3).mono ?_; rintro e w7 ⟨hk, t7, v7, E7, j7, rfl, hv7, hq, hc⟩; obtain rfl := hv7; have HB7 := hid (HB6.out.y1 hk hq); have HC7 := hid hc; clear hk hq hc)
      | (go_at_call 83; refine (rlay_any HB8.out.r (bare_in _ _ rfl rfl rfl) (fun e => by have h1 := take_ok HC7.out e; have h2 := take_ok HC3.out h1.1; have := HQL.out; omega)).mono ?_; rintro e w9 ⟨hk, z9, E9, j9, sv9, qs9, rfl, hz9, hq, ha, hc⟩; have HB9 := hid (HB8.out.y2 hk ha hq); have HC9 := hid hc; have HZ9 := hid hz9; clear hk hq hc ha hz9))
    go_ret
    refine ⟨HB9.out.k, z9, E9, j9, sv9, qs9, rfl, HZ9.out, HB9.out.r, HB9.out.a, ?_⟩
    rw [← HTt.out]
    exact test_has HN.out HW.out HC3.out HH.out HC7.out (by have := HC9.out; simpa using this)
  | false =>
    have HH := hid hh
    clear hh
    go_upto_region 20 with (go_at_call 82; refine (rsees_no HB4.out.r (x := wHas) HH.out).mono ?_; rintro e w5 ⟨rfl, hq, hk⟩; have HB5 := hid ((HB4.out.y1 hk hq).on ((Below.refl _ _).alloc (Nat.le_refl _) (.cells hwC 9))); have HG := hid (alloc_block w5 (.cells hwC 9)); have HNr : Hid (w5.heap.size ≠ rb) := (fun e => by have := hq.lt; omega); have HNn : Hid (w5.heap.size ≠ nb) := (fun e => by have := lt_of_block (HB4.out.y1 hk hq).b; omega); clear hq hk)
    generalize w5.alloc (.cells hwC 9) = W5 at *
    generalize w5.heap.size = sg at *
    clear HB4
    go_upto_region 21 with fail
    go_loopw [7] (fun u wr => ∃ (k N j : Nat), u = .int .i64 k ∧ (1 : Int) ≤ k ∧ (k : Int) ≤ 7 ∧ Hid (LpS ts E3 j3 k N j) ∧ Hid (Bn B ts w rb tv sv sv E3 o j qs nb (bare { n0 with kind := 14, s := t3.s, n := (N : Int) }) wr) ∧ Hid (wr.heap[sg]? = some (.cells hwC 9))) (fun u _ => 7 - (intOf u).toNat)
    case atStart => exact ⟨1, 0, j3, rfl, by omega, by omega, .inl ⟨rfl, rfl, fun m hm => by omega⟩, HB5.out, HG.out⟩
    case round =>
      obtain ⟨k, N, j, rfl, hk1, hk7, HL, HBr, HGr⟩ := hrel
      clear HB5 HG
      by_cases hN : N = 0
      · subst hN
        have cN : wr.cell? ⟨nb, 2, none⟩ = some (.int .i64 0) := block_cell HBr.out.b 2
        by_cases h7 : k < 7
        · have kI : (k : Int) < 7 := by omega
          have k0 : (0 : Int) ≤ k := by omega
          have cS := (block_cell HGr.out k).trans (hwC_at k (by omega) h7)
          have H7 := hid h7
          have HJ := hid (lps_at HL.out)
          cases hs : isE E3 ts j3 (howW.getD (k - 1) []) with
          | true =>
            have HSs := hid hs
            have HLy := hid (lps_yes HL.out (by omega) h7 hs)
            clear hs h7
            go_wp2_with (go_at_call 82; refine (rsees_yes HBr.out.r (x := howW.getD (k - 1) []) (by rw [HJ.out]; exact HSs.out)).mono ?_; rintro e w6 ⟨rfl, hq, hk⟩; have HB6 := hid (HBr.out.y1 hk hq); have HG6 := hid (hk.blk HGr.out HNr.out); have c6 := block_cell HB6.out.b 2; have z6 := block_frozen HB6.out.b 2; clear hq hk)
            go_roundw
            case rel => exact ⟨k + 1, k, j + 1, by simp, by omega, by omega, HLy.out, HB6.out.set1 (q' := bare { n0 with kind := 14, s := t3.s, n := (k : Int) }) 2 (.int .i64 k) (by kernel_rfl), (Kp.set (T := fun x => x = nb) rfl _).blk HG6.out HNn.out⟩
            case measure => simp [intOf]; have := H7.out; omega
          | false =>
            have HSs := hid hs
            have HLn := hid (lps_no HL.out hs)
            clear hs h7
            go_wp2_with (go_at_call 82; refine (rsees_no HBr.out.r (x := howW.getD (k - 1) []) (by rw [HJ.out]; exact HSs.out)).mono ?_; rintro e w6 ⟨rfl, hq, hk⟩; have HB6 := hid (HBr.out.y1 hk hq); have HG6 := hid (hk.blk HGr.out HNr.out); clear hq hk)
            go_roundw
            case rel => exact ⟨k + 1, 0, j, by simp, by omega, by omega, HLn.out, HB6.out, HG6.out⟩
            case measure => simp [intOf]; have := H7.out; omega
        · obtain rfl : k = 7 := by omega
          clear h7 hk1 hk7
          go_wp2_with (go_at_call 84; refine (rfail_any HBr.out.r).mono ?_; rintro e w6 ⟨rfl, hq, hk⟩; have HB6 := hid (HBr.out.y1 hk hq); clear hq hk)
          go_ret
          refine ⟨HB6.out.k, 0, _, _, sv, qs, rfl, by omega, HB6.out.r, HB6.out.a, ?_⟩
          rw [← HTt.out]
          exact test_none HN.out HW.out HC3.out HH.out HL.out
      · have cN : wr.cell? ⟨nb, 2, none⟩ = some (.int .i64 (N : Int)) := block_cell HBr.out.b 2
        have N0 : ((N : Int) == 0) = false := by simp; omega
        have HNp : Hid (0 < N) := Nat.pos_of_ne_zero hN
        have dk : decide ((k : Int) < 7) = true ∨ decide ((k : Int) < 7) = false := by cases decide ((k : Int) < 7) <;> simp
        clear hN
        rcases dk with dk | dk
        all_goals
          (go_wp2_with (first
            | (refine store_nv (c := x7) rfl _ _ rfl rfl rfl HB7.out.b ?_; intro w8 h8 k8; have HB8 := hid (HB7.out.set (q' := bare { n0 with kind := 14, s := t3.s, n := (N : Int), vk := x7.1, vn := x7.2.1, vs := x7.2.2 }) h8 k8); clear h8 k8)
            | (refine load_node (q := bare { n0 with kind := 14, s := t3.s, n := (N : Int), vk := x7.1, vn := x7.2.1, vs := x7.2.2 }) rfl _ rfl rfl HB8.out.b ?_)
            | (go_at_call 160; refine (rvalue_any HBr.out.r).mono ?_; rintro e w7 ⟨hk, x7, v7, E7, j7, rfl, hv7, hq, hc⟩; obtain rfl := hv7; have HB7 := hid (HBr.out.y1 hk hq); have HC7 := hid hc; clear hk hq hc)
            | (go_at_call 83; refine (rlay_any HB8.out.r (bare_in _ _ rfl rfl rfl) (fun e => by have h1 := value_len HC7.out e; have h2 := lps_ge HL.out; have := HQL.out; have := HBr.out.r.ql; omega)).mono ?_; rintro e w9 ⟨hk, z9, E9, j9, sv9, qs9, rfl, hz9, hq, ha, hc⟩; have HB9 := hid (HB8.out.y2 hk ha hq); have HC9 := hid hc; have HZ9 := hid hz9; clear hk hq hc ha hz9))
           go_ret
           refine ⟨HB9.out.k, z9, E9, j9, sv9, qs9, rfl, HZ9.out, HB9.out.r, HB9.out.a, ?_⟩
           rw [← HTt.out]
           exact test_cmp HN.out HW.out HC3.out HH.out HL.out HNp.out HC7.out (by have := HC9.out; simpa using this))
/- The smallest conditions, and all conditions, at any depth. -/
theorem rnot_any {d : Option PN} (hd : DeepY 118 B ts rb tv o d) (h : Ry B ts w rb tv sv E o i qs) : Calls Tryz.prog 118 #[dp rb] w (Y2 B ts rb tv sv o w (lf E i (notB ts d i (qs.map (·.np))))) := by
  by_cases hE : E = 0
  · subst hE
    cases hn : isW ts i wNot with
    | true => exact rnot_not hd h hn
    | false =>
      cases hw : isW ts i wOpen with
      | true => exact rnot_open hd h hn hw
      | false => exact rnot_test h hn hw
  · refine (rnot_err h hE).mono ?_
    rintro e w' ⟨rfl, rfl⟩
    exact ⟨Kp.refl _ _, 0, E, i, sv, qs, rfl, by omega, h, At.refl _ _, .inl ⟨if_neg hE, hE⟩⟩
theorem rnotS : ∀ n : Nat, n ≤ 16 → PNy 118 B ts rb tv (16 - n) (notS ts n)
  | 0, _ => fun _ _ _ _ _ _ h => rnot_any (d := none) (show 16 - 0 = 16 from rfl) h
  | n + 1, hn => fun _ _ _ _ _ _ h => rnot_any (d := some (notS ts n)) ⟨by omega, by rw [show 16 - (n + 1) + 1 = 16 - n by omega]; exact rnotS n (by omega), not_go ts n⟩ h
theorem rcondS (n : Nat) (hn : n ≤ 16) : PNy 47 B ts rb tv (16 - n) (condS ts n) := rcondB_any (rnotS n hn) (not_go ts n)
end
end Go.Proofs.YtmpjmimhoikknaaGreatDoor
namespace Go.Proofs.YtmpjmimhoikknaaGreatDoor
open Go.RowKit Go.Joins

abbrev agC : Array Value := #[.string ⟨#[]⟩, .string ⟨#[99, 111, 117, 110, 116]⟩, .string ⟨#[115, 117, 109]⟩, .string ⟨#[109, 105, 110]⟩, .string ⟨#[109, 97, 120]⟩, .string ⟨#[109, 101, 97, 110]⟩, .string ⟨#[109, 101, 114, 103, 101]⟩]
theorem agC_at (k : Nat) (h1 : 1 ≤ k) (h : k < 7) : agC[k]? = some (.string (St (aggW.getD (k - 1) []))) := by
  match k, h1, h with
  | 1, _, _ => rfl
  | 2, _, _ => rfl
  | 3, _, _ => rfl
  | 4, _, _ => rfl
  | 5, _, _ => rfl
  | 6, _, _ => rfl
section
variable {B : Nat} {ts : List Tp} {w w' wr : World} {rb : Nat} {tv sv : Value} {E E' Ej : Int} {o o' i j j' : Nat} {qs : List Nd} {sg : Nat} {u : Value} {acc : List (Int × List UInt8)}
structure Ag (B : Nat) (ts : List Tp) (w : World) (rb : Nat) (tv sv : Value) (E : Int) (o j : Nat) (qs : List Nd) (sg : Nat) (u : Value) (acc : List (Int × List UInt8)) (wr : World) : Prop where
  r : Ry B ts wr rb tv sv E o j qs
  ow : Own ag2 2 61 w.heap.size wr u acc
  k : Kp (fun k => k = rb) w wr
  b : wr.heap[sg]? = some (.cells agC 9)
  n : w.heap.size ≤ sg
  l : rb < w.heap.size
theorem Ag.ne (h : Ag B ts w rb tv sv E o j qs sg u acc wr) : sg ≠ rb := by have := h.n; have := h.l; omega
theorem Ag.y1 (h : Ag B ts w rb tv sv E o j qs sg u acc wr) (hk : Kp (fun k => k = rb) wr w') (hr : Ry B ts w' rb tv sv E' o' j' qs) : Ag B ts w rb tv sv E' o' j' qs sg u acc w' :=
  ⟨hr, h.ow.rdy h.r hk (by decide), h.k.trans hk, hk.blk h.b h.ne, h.n, h.l⟩
theorem Ag.on (h : Ag B ts w rb tv sv E o j qs sg u acc wr) (hb : Below wr.heap.size wr w') : Ag B ts w rb tv sv E o j qs sg u acc w' := h.y1 (Kp.of hb) (h.r.on hb)
theorem Ag.new {T : Nat → Prop} (h : Ag B ts w rb tv sv E o j qs sg u acc wr) (hk : Kp T wr w') (hT : ∀ k, T k → w.heap.size ≤ k) (hs : ¬ T sg) {v : Value} {acc' : List (Int × List UInt8)} (ho : Own ag2 2 61 w.heap.size w' v acc') (hr : Ry B ts w' rb tv sv E o j qs) : Ag B ts w rb tv sv E o j qs sg v acc' w' :=
  ⟨hr, ho, h.k.trans' hk (fun i hi e => by have := hT i e; omega), hk.blk h.b hs, h.n, h.l⟩
theorem Ag.app {w7 : World} {E0 : Int} {o0 i0 : Nat} {v : Value} {acc' : List (Int × List UInt8)} (h0 : Ry B ts w rb tv sv E0 o0 i0 qs) (h : Ag B ts w rb tv sv E o j qs sg u acc wr) (hb : Below wr.heap.size wr w') (hg : w'.grownBy w7 u.ownBlock) (ho : Own ag2 2 61 w.heap.size w7 v acc') : Ag B ts w rb tv sv E o j qs sg v acc' w7 := by
  have k7 : Kp (fun k => w.heap.size ≤ k) wr w7 := (Kp.of hb).trans (Kp.grown hg (fun k e => (h.ow.at e).1))
  obtain ⟨a, b⟩ := Ry.backN h0 h.r h.k k7
  exact ⟨a, ho, b, (Kp.grown (T := fun k => u.ownBlock = some k) hg (fun k e => e)).blk (block_on h.b hb) (fun e => by obtain ⟨c, fz, hc⟩ := h.ow.kind e; rw [h.b] at hc; cases hc), h.n, h.l⟩
theorem Ag.box {E0 : Int} {o0 i0 ab c : Nat} {v : Value} (h0 : Ry B ts w rb tv sv E0 o0 i0 qs) (h : Ag B ts w rb tv sv E o j qs sg u acc wr) (hab : w.heap.size ≤ ab) (hu : ∀ g, u.ownBlock = some g → g ≠ ab) (hs : sg ≠ ab) : Ag B ts w rb tv sv E o j qs sg u acc (wr.setCell ⟨ab, c, none⟩ v) := by
  obtain ⟨a, b⟩ := Ry.backN h0 h.r h.k (Kp.set (T := fun k => w.heap.size ≤ k) (b := ab) (i := c) hab v)
  have ks : Kp (fun k => k = ab) wr (wr.setCell ⟨ab, c, none⟩ v) := Kp.set (T := fun k => k = ab) rfl v
  exact ⟨a, h.ow.kp ks hu, b, ks.blk h.b hs, h.n, h.l⟩
theorem Ag.own_lt (h : Ag B ts w rb tv sv E o j qs sg u acc wr) : ∀ g, u.ownBlock = some g → g ≠ wr.heap.size := fun g hg e => by have h1 : g < wr.heap.size := (h.ow.at hg).2; omega
/- Mathematics: one round. -/
def InvA (ts : List Tp) (E : Int) (i f : Nat) (acc : List (Int × List UInt8)) (Ej : Int) (j : Nat) : Prop :=
  ∀ y k E', Cm (lf Ej j ((aggS ts j).and fun x j' => moreS ts (aggS ts) f (acc ++ [x]) j')) y k E' → Cm (lf E i (listS ts (aggS ts) i)) y k E'
theorem inva_start : InvA ts E i ts.length [] E i := fun _ _ _ h => h
/- None of the words stands there. -/
theorem inva_none {f : Nat} (h : InvA ts E i f acc Ej j) (hn : ∀ m, m < 6 → isE Ej ts j (aggW.getD m []) = false) (y : List (Int × List UInt8)) : Cm (lf E i (listS ts (aggS ts) i)) y j (erS Ej 120) := by
  apply h
  by_cases hE : Ej = 0
  · subst hE
    have e : aggS ts j = .bad j 120 := by
      unfold aggS oneOfS
      rw [idx_nil aggW 0 (fun m hm => isE_false (hn m hm) rfl)]; rfl
    rw [e]; exact erS_lf
  · have : erS Ej 120 = Ej := if_neg hE
    rw [this]; exact lf_bad hE
/- A word stands there. -/
theorem agg_at {k : Nat} (hk : 1 ≤ k) (hk7 : k < 7) (hn : ∀ m, m < k - 1 → isE 0 ts j (aggW.getD m []) = false) (hy : isW ts j (aggW.getD (k - 1) []) = true) : aggS ts j = if k = 1 then .ok (1, []) (j + 1) else (nameS ts (j + 1)).and fun x j => .ok ((k : Int), x) j := by
  unfold aggS oneOfS
  rw [idx_first aggW 0 (k - 1) (by show k - 1 < 6; omega) (fun m hm => isE_false (hn m hm) rfl) hy, Nat.zero_add]
  simp only [Rs.and]
  by_cases h : k = 1
  · subst h; rfl
  · rw [if_neg h, if_neg (by omega)]
    have e : (1 : Int) + ((k - 1 : Nat) : Int) = (k : Int) := by omega
    rw [e]
/- Behind a whole aggregate. -/
theorem inva_next {f j2 : Nat} {x : Int × List UInt8} {E2 : Int} (h : InvA ts E i f acc 0 j) (ha : Cm (aggS ts j) x j2 E2) (hw : isE E2 ts j2 wComma = true) (hf : ts.length ≤ f + j) (hj : j < j2) : ∃ f', f = f' + 1 ∧ InvA ts E i f' (acc ++ [x]) 0 (j2 + 1) := by
  have hE := isE_E hw
  subst hE
  have hl := isE_lt hw
  obtain ⟨f', rfl⟩ : ∃ f', f = f' + 1 := ⟨f - 1, by omega⟩
  refine ⟨f', rfl, fun y k E' hy => h y k E' ?_⟩
  have e : aggS ts j = .ok x j2 := by rcases ha with ⟨-, h⟩ | ⟨h, -⟩; exact absurd rfl h; exact h
  unfold lf at hy ⊢
  rw [if_pos rfl] at hy ⊢
  rw [e]
  show Cm (moreS ts (aggS ts) (f' + 1) (acc ++ [x]) j2) y k E'
  rw [moreS, if_pos (isE_W hw)]; exact hy
theorem inva_end {f j2 : Nat} {x : Int × List UInt8} {E2 : Int} (h : InvA ts E i f acc 0 j) (ha : Cm (aggS ts j) x j2 E2) (hw : isE E2 ts j2 wComma = false) : Cm (lf E i (listS ts (aggS ts) i)) (acc ++ [x]) j2 E2 := by
  apply h
  unfold lf; rw [if_pos rfl]
  refine ha.and ?_
  by_cases hE : E2 = 0
  · subst hE
    refine .inr ⟨?_, rfl⟩
    unfold lf; rw [if_pos rfl]
    cases f with
    | zero => rfl
    | succ f => rw [moreS, if_neg (by rw [isE_false hw rfl]; decide)]
  · exact lf_bad hE
end
end Go.Proofs.YtmpjmimhoikknaaGreatDoor
