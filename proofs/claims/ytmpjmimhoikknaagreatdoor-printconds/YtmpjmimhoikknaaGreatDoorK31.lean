/-
  The steps of ParseCuts, behind any query.
  Lex of two texts with a blank between.
  A query with one of the six steps behind it.
  What a text is read as is printed, and read again as it was: print's Check takes it.
-/
import Derived.Test.YtmpjmimhoikknaaGreatDoorK12
import Derived.Test.YtmpjmimhoikknaaGreatDoorK28
import Derived.Test.YtmpjmimhoikknaaGreatDoorK29
import Derived.Test.YtmpjmimhoikknaaGreatDoorK30
namespace Go.Proofs.YtmpjmimhoikknaaGreatDoor

section
variable {ts us : List Tp}
theorem idx_app (k : Nat) : ∀ (ws : List (List UInt8)) (m : Nat), idxOf (ts ++ us) (ts.length + k) ws m = idxOf us k ws m
  | [], _ => rfl
  | x :: r, m => by unfold idxOf; rw [isW_app, idx_app k r (m + 1)]
theorem one_app {ws : List (List UInt8)} {k m : Nat} (h : idxOf us k ws 0 = some m) : oneOfS (ts ++ us) ws (ts.length + k) = .ok m (ts.length + (k + 1)) := by
  unfold oneOfS; rw [idx_app, h]; rfl
theorem take_app {kd : Int} {k : Nat} {t : Tp} (h : us[k]? = some t) (hk : t.kind = kd) : takeS (ts ++ us) kd (ts.length + k) = .ok t (ts.length + (k + 1)) := by
  unfold takeS
  have e : isK us k kd = true := by unfold isK; rw [h]; simp [hk]
  have e2 : hereS us k = t := by unfold hereS; rw [h]; rfl
  rw [isK_app, here_app, e, e2]; rfl
theorem name_app {k : Nat} {t : Tp} (h : us[k]? = some t) (hk : t.kind = 1) : nameS (ts ++ us) (ts.length + k) = .ok t.s (ts.length + (k + 1)) := by unfold nameS; rw [take_app h hk]; rfl
theorem num_app {k : Nat} {t : Tp} (h : us[k]? = some t) (hk : t.kind = 2) : numS' (ts ++ us) (ts.length + k) = .ok t.n (ts.length + (k + 1)) := by unfold numS'; rw [take_app h hk]; rfl
theorem want_app {k : Nat} {x : List UInt8} (h : isW us k x = true) : wantS (ts ++ us) x (ts.length + k) = .ok () (ts.length + (k + 1)) := by unfold wantS; rw [isW_app, h]; rfl
theorem more_end {α : Type} {one : Nat → Rs α} {F k : Nat} {acc : List α} (h : isW us k wComma = false) : moreS (ts ++ us) one F acc (ts.length + k) = .ok acc (ts.length + k) := by
  cases F with
  | zero => rfl
  | succ F => rw [moreS, isW_app, h]; rfl
theorem list_app {α : Type} {one : Nat → Rs α} {k j : Nat} {x : α} (h : one (ts.length + k) = .ok x (ts.length + j)) (hw : isW us j wComma = false) : listS (ts ++ us) one (ts.length + k) = .ok [x] (ts.length + j) := by
  unfold listS; rw [h]; exact more_end hw
theorem chain_end {x : List UInt8} {kind : Int} {p : PN} {F a k : Nat} {ns : List Np} (h : isW us k x = false) : chainL (ts ++ us) x kind p F a (ts.length + k) ns = .ok (a, ns) (ts.length + k) := by
  cases F with
  | zero => rfl
  | succ F => rw [chainL, isW_app, h]; rfl
theorem steps_end {s : Nat → Nat → List Np → Rs (Np × List Np)} {F a k : Nat} {ns : List Np} (h : isW us k wBar = false) : stepsL (ts ++ us) s F a (ts.length + k) ns = .ok (a, ns) (ts.length + k) := by
  cases F with
  | zero => rfl
  | succ F => rw [stepsL, isW_app, h]; rfl
theorem steps_one {s : Nat → Nat → List Np → Rs (Np × List Np)} {F a j : Nat} {ns : List Np} {r : Np × List Np} (h : isW us 0 wBar = true) (hs : s a (ts.length + 1) ns = .ok r (ts.length + j)) (he : isW us j wBar = false) (hF : 0 < F) : stepsL (ts ++ us) s F a ts.length ns = .ok (r.2.length, r.2 ++ [r.1]) (ts.length + j) := by
  obtain ⟨F', rfl⟩ : ∃ n, F = n + 1 := ⟨F - 1, by omega⟩
  have e0 : isW (ts ++ us) ts.length wBar = true := by have := isW_app (ts := ts) (us := us) 0 wBar; rw [Nat.add_zero] at this; rw [this, h]
  rw [stepsL, e0, if_pos rfl, hs]
  exact steps_end he
/- keep -/
abbrev us_keep (a0 a1 a2 : Int) : List Tp := [⟨4, [124], 0, a0⟩, ⟨1, [107, 101, 101, 112], 0, a1⟩, ⟨1, [97], 0, a2⟩]
theorem step_keep (a0 a1 a2 : Int)  (c : PN) (o : Option PN) (a : Nat) (A : List Np) : stepB (ts ++ us_keep a0 a1 a2) c o a (ts.length + 1) A = .ok ({ laidN 3 a with names := [[97]] }, A) (ts.length + 3) := by
  unfold stepB; rw [one_app (k := 1) (m := 1) rfl]; simp only [Rs.and]; rw [list_app (k := 2) (name_app (k := 2) rfl rfl) rfl]
/- align -/
abbrev us_align (a0 a1 a2 : Int) : List Tp := [⟨4, [124], 0, a0⟩, ⟨1, [97, 108, 105, 103, 110], 0, a1⟩, ⟨2, [], 5, a2⟩]
theorem step_align (a0 a1 a2 : Int)  (c : PN) (o : Option PN) (a : Nat) (A : List Np) : stepB (ts ++ us_align a0 a1 a2) c o a (ts.length + 1) A = .ok ({ laidN 4 a with n := 5 }, A) (ts.length + 3) := by
  unfold stepB; rw [one_app (k := 1) (m := 2) rfl]; simp only [Rs.and]; rw [num_app (k := 2) rfl rfl]
/- top -/
abbrev us_top (a0 a1 a2 a3 a4 : Int) : List Tp := [⟨4, [124], 0, a0⟩, ⟨1, [116, 111, 112], 0, a1⟩, ⟨2, [], 3, a2⟩, ⟨1, [98, 121], 0, a3⟩, ⟨1, [98], 0, a4⟩]
theorem step_top (a0 a1 a2 a3 a4 : Int)  (c : PN) (o : Option PN) (a : Nat) (A : List Np) : stepB (ts ++ us_top a0 a1 a2 a3 a4) c o a (ts.length + 1) A = .ok ({ laidN 6 a with n := 3, s := [98] }, A) (ts.length + 5) := by
  unfold stepB; rw [one_app (k := 1) (m := 4) rfl]; simp only [Rs.and]; rw [num_app (k := 2) rfl rfl]; simp only []; rw [want_app (k := 3) rfl]; simp only []; rw [name_app (k := 4) rfl rfl]
/- group -/
abbrev us_group (a0 a1 a2 a3 a4 : Int) : List Tp := [⟨4, [124], 0, a0⟩, ⟨1, [103, 114, 111, 117, 112], 0, a1⟩, ⟨1, [99], 0, a2⟩, ⟨4, [58], 0, a3⟩, ⟨1, [99, 111, 117, 110, 116], 0, a4⟩]
theorem step_group (a0 a1 a2 a3 a4 : Int)  (c : PN) (o : Option PN) (a : Nat) (A : List Np) : stepB (ts ++ us_group a0 a1 a2 a3 a4) c o a (ts.length + 1) A = .ok ({ laidN 5 a with names := [[99]], aggs := [(1, [])] }, A) (ts.length + 5) := by
  have ea : aggS (ts ++ us_group a0 a1 a2 a3 a4) (ts.length + 4) = .ok (1, []) (ts.length + 5) := by unfold aggS; rw [one_app (k := 4) (m := 0) rfl]; rfl
  unfold stepB; rw [one_app (k := 1) (m := 3) rfl]; simp only [Rs.and]; rw [isW_app (us := us_group a0 a1 a2 a3 a4) 2 wColon, show isW (us_group a0 a1 a2 a3 a4) 2 wColon = false from rfl, if_neg (by decide), list_app (k := 2) (name_app (k := 2) rfl rfl) rfl]; simp only []; rw [want_app (k := 3) rfl]; simp only []; rw [list_app (k := 4) ea rfl]
/- where -/
abbrev us_where (a0 a1 a2 a3 a4 : Int) : List Tp := [⟨4, [124], 0, a0⟩, ⟨1, [119, 104, 101, 114, 101], 0, a1⟩, ⟨1, [100], 0, a2⟩, ⟨4, [61], 0, a3⟩, ⟨2, [], 1, a4⟩]
theorem test_where (a0 a1 a2 a3 a4 : Int) : testS (ts ++ us_where a0 a1 a2 a3 a4) (ts.length + 2) = .ok { n0 with kind := 14, s := [100], n := 1, vk := 1, vn := 1 } (ts.length + 5) := by
  have ev : valueS (ts ++ us_where a0 a1 a2 a3 a4) (ts.length + 4) = .ok (1, 1, []) (ts.length + 5) := by unfold valueS; rw [isK_app (us := us_where a0 a1 a2 a3 a4) 4 2, show isK (us_where a0 a1 a2 a3 a4) 4 2 = true from rfl, if_pos rfl, num_app (k := 4) rfl rfl]; rfl
  unfold testS; rw [name_app (k := 2) rfl rfl]; simp only [Rs.and]; rw [isW_app (us := us_where a0 a1 a2 a3 a4) 3 wHas, show isW (us_where a0 a1 a2 a3 a4) 3 wHas = false from rfl, if_neg (by decide), one_app (k := 3) (m := 0) rfl]; simp only []; rw [ev]; rfl
theorem cond_where (a0 a1 a2 a3 a4 : Int) (d : Nat) (A : List Np) : condS (ts ++ us_where a0 a1 a2 a3 a4) d (ts.length + 2) A = .ok (A.length, A ++ [{ n0 with kind := 14, s := [100], n := 1, vk := 1, vn := 1 }]) (ts.length + 5) := by
  have en : ∀ o, notB (ts ++ us_where a0 a1 a2 a3 a4) o (ts.length + 2) A = .ok (A.length, A ++ [{ n0 with kind := 14, s := [100], n := 1, vk := 1, vn := 1 }]) (ts.length + 5) := by
    intro o
    unfold notB; rw [isW_app (us := us_where a0 a1 a2 a3 a4) 2 wNot, show isW (us_where a0 a1 a2 a3 a4) 2 wNot = false from rfl, if_neg (by decide), isW_app (us := us_where a0 a1 a2 a3 a4) 2 wOpen, show isW (us_where a0 a1 a2 a3 a4) 2 wOpen = false from rfl, if_neg (by decide), test_where]; rfl
  have en2 : notS (ts ++ us_where a0 a1 a2 a3 a4) d (ts.length + 2) A = .ok (A.length, A ++ [{ n0 with kind := 14, s := [100], n := 1, vk := 1, vn := 1 }]) (ts.length + 5) := by
    cases d <;> exact en _
  unfold condS condB bothB chainS; rw [en2]; simp only [Rs.and]; rw [chain_end (us := us_where a0 a1 a2 a3 a4) (k := 5) rfl]; simp only []; rw [chain_end (us := us_where a0 a1 a2 a3 a4) (k := 5) rfl]
theorem step_where (a0 a1 a2 a3 a4 : Int) (d : Nat) (a : Nat) (A : List Np) : stepB (ts ++ us_where a0 a1 a2 a3 a4) (condS (ts ++ us_where a0 a1 a2 a3 a4) d) (some (queryS (ts ++ us_where a0 a1 a2 a3 a4) 15)) a (ts.length + 1) A = .ok ({ n0 with kind := 2, l := [(a : Int), (A.length : Int)] }, A ++ [{ n0 with kind := 14, s := [100], n := 1, vk := 1, vn := 1 }]) (ts.length + 5) := by
  unfold stepB; rw [one_app (k := 1) (m := 0) rfl]; simp only [Rs.and]; rw [cond_where]
/- union -/
abbrev us_union (a0 a1 a2 a3 a4 a5 : Int) : List Tp := [⟨4, [124], 0, a0⟩, ⟨1, [117, 110, 105, 111, 110], 0, a1⟩, ⟨4, [40], 0, a2⟩, ⟨1, [102, 101, 116, 99, 104], 0, a3⟩, ⟨1, [101], 0, a4⟩, ⟨4, [41], 0, a5⟩]
theorem fetch_union (a0 a1 a2 a3 a4 a5 : Int) : fetchS (ts ++ us_union a0 a1 a2 a3 a4 a5) (ts.length + 3) = .ok { n0 with kind := 1, s := [101], to_ := 1099511627775 } (ts.length + 5) := by
  unfold fetchS; rw [want_app (k := 3) rfl]; simp only [Rs.and]; rw [name_app (k := 4) rfl rfl]; simp only []; rw [isW_app (us := us_union a0 a1 a2 a3 a4 a5) 5 wFrom, show isW (us_union a0 a1 a2 a3 a4 a5) 5 wFrom = false from rfl, if_neg (by decide)]
theorem query_union (a0 a1 a2 a3 a4 a5 : Int) (d : Nat) (A : List Np) : queryS (ts ++ us_union a0 a1 a2 a3 a4 a5) d (ts.length + 3) A = .ok (A.length, A ++ [{ n0 with kind := 1, s := [101], to_ := 1099511627775 }]) (ts.length + 5) := by
  have eq : ∀ c o, queryB (ts ++ us_union a0 a1 a2 a3 a4 a5) c o (ts.length + 3) A = .ok (A.length, A ++ [{ n0 with kind := 1, s := [101], to_ := 1099511627775 }]) (ts.length + 5) := by
    intro c o
    unfold queryB; rw [fetch_union]; simp only [Rs.and]; rw [steps_end (us := us_union a0 a1 a2 a3 a4 a5) (k := 5) rfl]
  cases d <;> exact eq _ _
theorem step_union (a0 a1 a2 a3 a4 a5 : Int) (d : Nat) (a : Nat) (A : List Np) : stepB (ts ++ us_union a0 a1 a2 a3 a4 a5) (condS (ts ++ us_union a0 a1 a2 a3 a4 a5) 16) (some (queryS (ts ++ us_union a0 a1 a2 a3 a4 a5) d)) a (ts.length + 1) A = .ok ({ n0 with kind := 8, l := [(a : Int), (A.length : Int)] }, A ++ [{ n0 with kind := 1, s := [101], to_ := 1099511627775 }]) (ts.length + 6) := by
  unfold stepB; rw [one_app (k := 1) (m := 6) rfl]; simp only [Rs.and]; unfold inBr; rw [isW_app (us := us_union a0 a1 a2 a3 a4 a5) 2 wOpen, show isW (us_union a0 a1 a2 a3 a4 a5) 2 wOpen = true from rfl, if_pos rfl]; simp only []; rw [query_union]; simp only [Rs.and]; rw [want_app (k := 5) rfl]
end
end Go.Proofs.YtmpjmimhoikknaaGreatDoor
namespace Go.Proofs.YtmpjmimhoikknaaGreatDoor
open Go.RowKit Go.Joins

theorem bl_wd {b : UInt8} (h : isBl b = true) : isWd b = false := by simp [isBl] at h; simp [isWd]; omega
theorem bl_dg {b : UInt8} (h : isBl b = true) : isDg b = false := by simp [isBl] at h; simp [isDg]; omega
theorem txt_app : ∀ (l m acc : List UInt8) (sl : Bool) (k : Nat) (x : List UInt8 × Nat), txtF acc sl k l = some x → txtF acc sl k (l ++ m) = some x
  | [], m, acc, sl, k, x, h => by simp [txtF] at h
  | c :: r, m, acc, sl, k, x, h => by
    rw [List.cons_append]
    unfold txtF at h ⊢
    split at h
    · cases h
    · rename_i h1
      rw [if_neg h1]
      split at h
      · rename_i h2; rw [if_pos h2]; exact h
      · rename_i h2
        rw [if_neg h2]
        split at h
        · rename_i h3; rw [if_pos h3]; exact txt_app r m _ _ _ _ h
        · rename_i h3; rw [if_neg h3]; exact txt_app r m _ _ _ _ h
theorem sign_app {b c : UInt8} (hb : isBl b = true) (xs r : List UInt8) : signS (c :: xs ++ b :: r) = signS (c :: xs) := by
  have hb61 : ¬ (61 : UInt8) = b := fun e => by subst e; simp [isBl] at hb
  have e : ∀ x ∈ signsL, x.isPrefixOf (c :: xs ++ b :: r) = x.isPrefixOf (c :: xs) := by
    intro x hx
    simp only [signsL, List.mem_cons, List.not_mem_nil, or_false] at hx
    rcases hx with h | h | h | h | h | h | h | h | h | h | h <;> subst h <;> cases xs <;> simp [List.isPrefixOf, hb61]
  unfold signS
  have : signsL.find? (fun x => x.isPrefixOf (c :: xs ++ b :: r)) = signsL.find? (fun x => x.isPrefixOf (c :: xs)) := by
    generalize signsL = L at *
    induction L with
    | nil => rfl
    | cons y L ih =>
      rw [List.find?_cons, List.find?_cons, e y (by simp), ih (fun x hx => e x (by simp [hx]))]
  rw [this]
theorem first_app {xs : List UInt8} {t : Tk} {n : Nat} {b : UInt8} (hb : isBl b = true) (r : List UInt8) (h : firstS xs = some (t, n)) : firstS (xs ++ b :: r) = some (t, n) := by
  have hp := firstS_pos h
  cases xs with
  | nil => simp [firstS] at h
  | cons c xs =>
    rw [List.cons_append]
    unfold firstS at h ⊢
    simp only at h ⊢
    split at h
    · rename_i h1
      rw [if_pos h1]
      unfold wordS at h ⊢
      rw [← List.cons_append, spanN_app isWd b (bl_wd hb)]
      have hle := spanN_le isWd (c :: xs)
      split at h
      · cases h
      · rename_i h2
        rw [if_neg h2, List.take_append_of_le_length hle]; exact h
    · rename_i h1
      rw [if_neg h1]
      split at h
      · rename_i h2
        rw [if_pos h2]
        have hng : neg1 (c :: (xs ++ b :: r)) = neg1 (c :: xs) := rfl
        have hsg : sgn1 (c :: (xs ++ b :: r)) = sgn1 (c :: xs) := rfl
        have hdg : digitsOf (c :: (xs ++ b :: r)) = digitsOf (c :: xs) ++ b :: r := by
          unfold digitsOf; rw [hng]; split <;> rfl
        unfold numS at h ⊢
        rw [hng, hsg, hdg, spanN_app isWd b (bl_wd hb), spanN_app isDg b (bl_dg hb)]
        have hle := spanN_le isDg (digitsOf (c :: xs))
        split at h
        · cases h
        · rename_i h3
          rw [if_neg h3]
          have hne : digitsOf (c :: xs) ≠ [] := fun e => by
            rw [e] at h3; exact h3 (.inl rfl)
          have hh : (digitsOf (c :: xs) ++ b :: r).head? = (digitsOf (c :: xs)).head? := by
            cases hx : digitsOf (c :: xs) with
            | nil => exact absurd hx hne
            | cons y ys => rfl
          rw [hh]
          split at h
          · cases h
          · rename_i h4
            rw [if_neg h4, List.take_append_of_le_length hle]; exact h
      · rename_i h2
        rw [if_neg h2]
        split at h
        · rename_i h3
          rw [if_pos h3]
          unfold textS at h ⊢
          simp only [List.tail_cons] at h ⊢
          split at h
          · rename_i e1
            rw [txt_app xs (b :: r) _ _ _ _ e1]; exact h
          · cases h
        · rename_i h3
          rw [if_neg h3, ← List.cons_append, sign_app hb]; exact h
theorem lexA_app {b : UInt8} (hb : isBl b = true) (r : List UInt8) : ∀ (f : Nat) (xs : List UInt8) (a : Nat) (ts : List Tk), xs.length ≤ f → lexA a xs = .inr ts → lexA a (xs ++ b :: r) = joinT ts (lexA (a + xs.length) (b :: r))
  | _, [], a, ts, _, h => by
    rw [lexA_nil] at h; cases h
    simp only [List.nil_append, List.length_nil, Nat.add_zero]
    cases lexA a (b :: r) <;> rfl
  | 0, c :: xs, a, ts, hf, _ => by simp at hf
  | f + 1, c :: xs, a, ts, hf, h => by
    cases hc : isBl c with
    | true =>
      rw [lexA_bl a xs hc] at h
      rw [List.cons_append, lexA_bl a _ hc, lexA_app hb r f xs (a + 1) ts (by simpa using hf) h]
      simp [Nat.add_assoc, Nat.add_comm 1]
    | false =>
      cases hfi : firstS (c :: xs) with
      | none => rw [lexA_no a hc hfi] at h; cases h
      | some x =>
        obtain ⟨t, n⟩ := x
        have hp := firstS_pos hfi
        rw [lexA_some a hc hfi] at h
        have hfa := first_app hb r hfi
        rw [List.cons_append] at hfa ⊢
        rw [lexA_some a hc hfa, ← List.cons_append, List.drop_append_of_le_length hp.2]
        cases hr : lexA (a + n) ((c :: xs).drop n) with
        | inl e => rw [hr] at h; cases h
        | inr m =>
          rw [hr] at h
          cases h
          rw [lexA_app hb r f _ _ m (by simp at hf ⊢; omega) hr, List.length_drop, show a + n + ((c :: xs).length - n) = a + (c :: xs).length by omega]
          cases lexA (a + (c :: xs).length) (b :: r) <;> rfl
def sig (t : Tk) : Nat × List UInt8 × Int := (t.kind, t.s, t.n)
theorem lexA_move : ∀ (f : Nat) (xs : List UInt8) (a b : Nat) (ts : List Tk), xs.length ≤ f → lexA a xs = .inr ts → ∃ us, lexA b xs = .inr us ∧ us.map sig = ts.map sig
  | _, [], a, b, ts, _, h => by
    rw [lexA_nil] at h; cases h
    exact ⟨[], rfl, rfl⟩
  | 0, c :: xs, a, b, ts, hf, _ => by simp at hf
  | f + 1, c :: xs, a, b, ts, hf, h => by
    cases hc : isBl c with
    | true =>
      rw [lexA_bl a xs hc] at h
      obtain ⟨us, h1, h2⟩ := lexA_move f xs (a + 1) (b + 1) ts (by simpa using hf) h
      exact ⟨us, by rw [lexA_bl b xs hc]; exact h1, h2⟩
    | false =>
      cases hfi : firstS (c :: xs) with
      | none => rw [lexA_no a hc hfi] at h; cases h
      | some x =>
        obtain ⟨t, n⟩ := x
        have hp := firstS_pos hfi
        rw [lexA_some a hc hfi] at h
        cases hr : lexA (a + n) ((c :: xs).drop n) with
        | inl e => rw [hr] at h; cases h
        | inr m =>
          rw [hr] at h
          cases h
          obtain ⟨us, h1, h2⟩ := lexA_move f ((c :: xs).drop n) (a + n) (b + n) m (by simp at hf ⊢; omega) hr
          refine ⟨{ t with at_ := b } :: us, ?_, by simp [h2, sig]⟩
          rw [lexA_some b hc hfi, h1]
theorem lexO_inr {l : List UInt8} {ts : List Tk} {a : Nat} (h : lexO l = (ts, a, 0)) : lexA 0 l = .inr ts := by
  unfold lexO at h
  split at h
  · cases h
  · split at h
    · cases h
    · rename_i e; cases h; exact e
end Go.Proofs.YtmpjmimhoikknaaGreatDoor
namespace Go.Proofs.YtmpjmimhoikknaaGreatDoor
open Go.RowKit Go.Joins

def sufs : List (List UInt8) := [[32, 124, 32, 107, 101, 101, 112, 32, 97], [32, 124, 32, 97, 108, 105, 103, 110, 32, 53], [32, 124, 32, 116, 111, 112, 32, 51, 32, 98, 121, 32, 98], [32, 124, 32, 103, 114, 111, 117, 112, 32, 99, 32, 58, 32, 99, 111, 117, 110, 116], [32, 124, 32, 119, 104, 101, 114, 101, 32, 100, 32, 61, 32, 49], [32, 124, 32, 117, 110, 105, 111, 110, 32, 40, 102, 101, 116, 99, 104, 32, 101, 41]]
theorem joinT_inr {ts us : List Tk} : joinT ts (.inr us) = .inr (ts ++ us) := rfl
/- The tokens of both. -/
theorem lex_suf {l : List UInt8} {tks : List Tk} {a : Nat} {x : List UInt8} {sg : List (Nat × List UInt8 × Int)} {e0 : List Tk} (h : lexO l = (tks, a, 0)) (hx : ∃ r, x = 32 :: r) (he : lexA 0 x = .inr e0) (hs : e0.map sig = sg) {T : List Tk} {b : Nat} {e : Int} (h2 : lexO (l ++ x) = (T, b, e)) (he0 : e = 0) : ∃ us, T = tks ++ us ∧ us.map sig = sg := by
  subst he0
  obtain ⟨r, rfl⟩ := hx
  have h3 := lexA_app (b := 32) (by decide) r l.length l 0 tks (Nat.le_refl _) (lexO_inr h)
  obtain ⟨us, hu1, hu2⟩ := lexA_move (32 :: r).length (32 :: r) 0 (0 + l.length) e0 (Nat.le_refl _) he
  rw [hu1, joinT_inr, lexO_inr h2] at h3
  cases h3
  exact ⟨us, rfl, by rw [hu2, hs]⟩
theorem sig_cons {us : List Tk} {k : Nat} {s : List UInt8} {n : Int} {sg : List (Nat × List UInt8 × Int)} (h : us.map sig = (k, s, n) :: sg) : ∃ a r, us = ⟨k, s, n, a⟩ :: r ∧ r.map sig = sg := by
  cases us with
  | nil => cases h
  | cons t r =>
    simp only [List.map_cons, List.cons.injEq, sig, Prod.mk.injEq] at h
    obtain ⟨⟨rfl, rfl, rfl⟩, h2⟩ := h
    exact ⟨t.at_, r, rfl, h2⟩
theorem sig_nil {us : List Tk} (h : us.map sig = []) : us = [] := List.map_eq_nil_iff.1 h
/- What is asked of the second answer. -/
def CutR (A Bn : List Np) (m : Nat) : Prop := ∃ tail x, Bn = A ++ tail ∧ tail.length = m ∧ tail[m - 1]? = some x ∧ x.l.head? = some ((A.length - 1 : Nat) : Int) ∧ 0 < A.length
theorem whole_is {ts : List Tp} {p : PN} {r : Nat × List Np} {j : Nat} (hp : p 0 [] = .ok r j) (h : (wholeS ts p).2.2 = 0) : (wholeS ts p).1 = r.2 := by
  unfold wholeS at h ⊢
  split at h
  · simp at h
  · rename_i hl
    rw [if_neg hl, hp]
    rw [hp] at h
    simp only at h ⊢
    split at h
    · simp at h
    · rename_i h1
      rw [if_neg h1]
      split at h
      · simp at h
      · rename_i h2; rw [if_neg h2]
theorem cut_of {ts us : List Tp} {A : List Np} {a m j : Nat} {x : Np} {tail : List Np} (hb : Bar us) (hA : parseS ts = (A, a, 0)) (hs : stepB (ts ++ us) (condS (ts ++ us) 16) (some (queryS (ts ++ us) 15)) (A.length - 1) (ts.length + 1) A = .ok (x, A ++ tail) (ts.length + j)) (he : isW us j wBar = false) (hm : tail.length + 1 = m) (hx : x.l.head? = some ((A.length - 1 : Nat) : Int)) (h : (parseS (ts ++ us)).2.2 = 0) : CutR A (parseS (ts ++ us)).1 m := by
  have hne := (parse_tree (ts := ts) (by rw [hA])).1.ne
  rw [hA] at hne
  obtain ⟨F, hF, e⟩ := query_on hb hA
  obtain ⟨b, r, hu, hk1, hk2⟩ := id hb
  have h0 : isW us 0 wBar = true := by rw [hu]; simp [isW, hk1, hk2]
  rw [steps_one h0 hs he (by rw [hu] at hF; simp at hF; omega)] at e
  refine ⟨tail ++ [x], x, ?_, by simp; omega, ?_, hx, hne⟩
  · have := whole_is (ts := ts ++ us) e h
    unfold parseS
    rw [this]; simp
  · rw [← hm]; simp
theorem queryO_ok {l : List UInt8} (h : (queryO l).2.2 = 0) : ∃ tks a, lexO l = (tks, a, 0) ∧ (parseS (tks.map tp)).2.2 = 0 ∧ (queryO l).1 = (parseS (tks.map tp)).1 := by
  unfold queryO at h ⊢
  generalize lexO l = O at *
  obtain ⟨tks, a, e⟩ := O
  simp only at h ⊢
  split at h
  · rename_i he
    subst he
    split at h
    · rename_i h1
      exact ⟨tks, a, rfl, h1, by rw [if_pos rfl, if_pos h1]⟩
    · rename_i h1; exact absurd h h1
  · rename_i he; exact absurd h he
theorem trip {ts : List Tp} (h : (parseS ts).2.2 = 0) : parseS ts = ((parseS ts).1, (parseS ts).2.1, 0) := by rw [← h]
theorem cut_is (l : List UInt8) (k : Nat) (hk : k < 6) (h1 : (queryO l).2.2 = 0) (h2 : (queryO (l ++ sufs.getD k [])).2.2 = 0) : CutR (queryO l).1 (queryO (l ++ sufs.getD k [])).1 (if 3 < k then 2 else 1) := by
  obtain ⟨tks, a, e1, e2, e3⟩ := queryO_ok h1
  obtain ⟨T, b, f1, f2, f3⟩ := queryO_ok h2
  rw [e3, f3]
  match k, hk with
  | 0, _ =>
    obtain ⟨us, rfl, hu0⟩ := lex_suf (x := [32, 124, 32, 107, 101, 101, 112, 32, 97]) e1 ⟨_, rfl⟩ (e0 := [⟨4, [124], 0, 1⟩, ⟨1, [107, 101, 101, 112], 0, 3⟩, ⟨1, [97], 0, 8⟩]) (by decide +kernel) rfl f1 rfl
    obtain ⟨a0, r0, rfl, hu1⟩ := sig_cons hu0
    obtain ⟨a1, r1, rfl, hu2⟩ := sig_cons hu1
    obtain ⟨a2, r2, rfl, hu3⟩ := sig_cons hu2
    obtain rfl := sig_nil hu3
    rw [List.map_append] at f2 ⊢
    exact cut_of (us := us_keep a0 a1 a2) ⟨_, _, rfl, rfl, rfl⟩ (trip e2) (tail := []) (by rw [List.append_nil]; exact step_keep a0 a1 a2 _ _ _ _) rfl rfl rfl f2
  | 1, _ =>
    obtain ⟨us, rfl, hu0⟩ := lex_suf (x := [32, 124, 32, 97, 108, 105, 103, 110, 32, 53]) e1 ⟨_, rfl⟩ (e0 := [⟨4, [124], 0, 1⟩, ⟨1, [97, 108, 105, 103, 110], 0, 3⟩, ⟨2, [], 5, 9⟩]) (by decide +kernel) rfl f1 rfl
    obtain ⟨a0, r0, rfl, hu1⟩ := sig_cons hu0
    obtain ⟨a1, r1, rfl, hu2⟩ := sig_cons hu1
    obtain ⟨a2, r2, rfl, hu3⟩ := sig_cons hu2
    obtain rfl := sig_nil hu3
    rw [List.map_append] at f2 ⊢
    exact cut_of (us := us_align a0 a1 a2) ⟨_, _, rfl, rfl, rfl⟩ (trip e2) (tail := []) (by rw [List.append_nil]; exact step_align a0 a1 a2 _ _ _ _) rfl rfl rfl f2
  | 2, _ =>
    obtain ⟨us, rfl, hu0⟩ := lex_suf (x := [32, 124, 32, 116, 111, 112, 32, 51, 32, 98, 121, 32, 98]) e1 ⟨_, rfl⟩ (e0 := [⟨4, [124], 0, 1⟩, ⟨1, [116, 111, 112], 0, 3⟩, ⟨2, [], 3, 7⟩, ⟨1, [98, 121], 0, 9⟩, ⟨1, [98], 0, 12⟩]) (by decide +kernel) rfl f1 rfl
    obtain ⟨a0, r0, rfl, hu1⟩ := sig_cons hu0
    obtain ⟨a1, r1, rfl, hu2⟩ := sig_cons hu1
    obtain ⟨a2, r2, rfl, hu3⟩ := sig_cons hu2
    obtain ⟨a3, r3, rfl, hu4⟩ := sig_cons hu3
    obtain ⟨a4, r4, rfl, hu5⟩ := sig_cons hu4
    obtain rfl := sig_nil hu5
    rw [List.map_append] at f2 ⊢
    exact cut_of (us := us_top a0 a1 a2 a3 a4) ⟨_, _, rfl, rfl, rfl⟩ (trip e2) (tail := []) (by rw [List.append_nil]; exact step_top a0 a1 a2 a3 a4 _ _ _ _) rfl rfl rfl f2
  | 3, _ =>
    obtain ⟨us, rfl, hu0⟩ := lex_suf (x := [32, 124, 32, 103, 114, 111, 117, 112, 32, 99, 32, 58, 32, 99, 111, 117, 110, 116]) e1 ⟨_, rfl⟩ (e0 := [⟨4, [124], 0, 1⟩, ⟨1, [103, 114, 111, 117, 112], 0, 3⟩, ⟨1, [99], 0, 9⟩, ⟨4, [58], 0, 11⟩, ⟨1, [99, 111, 117, 110, 116], 0, 13⟩]) (by decide +kernel) rfl f1 rfl
    obtain ⟨a0, r0, rfl, hu1⟩ := sig_cons hu0
    obtain ⟨a1, r1, rfl, hu2⟩ := sig_cons hu1
    obtain ⟨a2, r2, rfl, hu3⟩ := sig_cons hu2
    obtain ⟨a3, r3, rfl, hu4⟩ := sig_cons hu3
    obtain ⟨a4, r4, rfl, hu5⟩ := sig_cons hu4
    obtain rfl := sig_nil hu5
    rw [List.map_append] at f2 ⊢
    exact cut_of (us := us_group a0 a1 a2 a3 a4) ⟨_, _, rfl, rfl, rfl⟩ (trip e2) (tail := []) (by rw [List.append_nil]; exact step_group a0 a1 a2 a3 a4 _ _ _ _) rfl rfl rfl f2
  | 4, _ =>
    obtain ⟨us, rfl, hu0⟩ := lex_suf (x := [32, 124, 32, 119, 104, 101, 114, 101, 32, 100, 32, 61, 32, 49]) e1 ⟨_, rfl⟩ (e0 := [⟨4, [124], 0, 1⟩, ⟨1, [119, 104, 101, 114, 101], 0, 3⟩, ⟨1, [100], 0, 9⟩, ⟨4, [61], 0, 11⟩, ⟨2, [], 1, 13⟩]) (by decide +kernel) rfl f1 rfl
    obtain ⟨a0, r0, rfl, hu1⟩ := sig_cons hu0
    obtain ⟨a1, r1, rfl, hu2⟩ := sig_cons hu1
    obtain ⟨a2, r2, rfl, hu3⟩ := sig_cons hu2
    obtain ⟨a3, r3, rfl, hu4⟩ := sig_cons hu3
    obtain ⟨a4, r4, rfl, hu5⟩ := sig_cons hu4
    obtain rfl := sig_nil hu5
    rw [List.map_append] at f2 ⊢
    exact cut_of (us := us_where a0 a1 a2 a3 a4) ⟨_, _, rfl, rfl, rfl⟩ (trip e2) (step_where a0 a1 a2 a3 a4 16 _ _) rfl rfl rfl f2
  | 5, _ =>
    obtain ⟨us, rfl, hu0⟩ := lex_suf (x := [32, 124, 32, 117, 110, 105, 111, 110, 32, 40, 102, 101, 116, 99, 104, 32, 101, 41]) e1 ⟨_, rfl⟩ (e0 := [⟨4, [124], 0, 1⟩, ⟨1, [117, 110, 105, 111, 110], 0, 3⟩, ⟨4, [40], 0, 9⟩, ⟨1, [102, 101, 116, 99, 104], 0, 10⟩, ⟨1, [101], 0, 16⟩, ⟨4, [41], 0, 17⟩]) (by decide +kernel) rfl f1 rfl
    obtain ⟨a0, r0, rfl, hu1⟩ := sig_cons hu0
    obtain ⟨a1, r1, rfl, hu2⟩ := sig_cons hu1
    obtain ⟨a2, r2, rfl, hu3⟩ := sig_cons hu2
    obtain ⟨a3, r3, rfl, hu4⟩ := sig_cons hu3
    obtain ⟨a4, r4, rfl, hu5⟩ := sig_cons hu4
    obtain ⟨a5, r5, rfl, hu6⟩ := sig_cons hu5
    obtain rfl := sig_nil hu6
    rw [List.map_append] at f2 ⊢
    exact cut_of (us := us_union a0 a1 a2 a3 a4 a5) ⟨_, _, rfl, rfl, rfl⟩ (trip e2) (step_union a0 a1 a2 a3 a4 a5 15 _ _) rfl rfl rfl f2
end Go.Proofs.YtmpjmimhoikknaaGreatDoor
namespace Go.Proofs.YtmpjmimhoikknaaGreatDoor

/- What tokens a text is cut into. -/
def TkOk (t : Tk) : Prop := (t.kind = 1 → Wd t.s) ∧ (t.kind = 2 → In64 t.n) ∧ (t.kind = 3 → t.s.length ≤ 64)
theorem txt_len : ∀ (l acc : List UInt8) (sl : Bool) (k : Nat) (b : List UInt8) (n : Nat), txtF acc sl k l = some (b, n) → b.length ≤ 64
  | [], acc, sl, k, b, n, h => by simp [txtF] at h
  | c :: r, acc, sl, k, b, n, h => by
    unfold txtF at h
    split at h
    · cases h
    · rename_i h0
      split at h
      · cases h; simp at h0; omega
      · split at h
        · exact txt_len r _ _ _ _ _ h
        · exact txt_len r _ _ _ _ _ h
theorem word_wd {c : UInt8} {r : List UInt8} (hc : isLe c = true) (hl : ¬ 24 < spanN isWd (c :: r)) : Wd ((c :: r).take (spanN isWd (c :: r))) := by
  obtain ⟨m, hm⟩ : ∃ m, spanN isWd (c :: r) = m + 1 := ⟨spanN isWd r, by simp [spanN, isLe_isWd hc]⟩
  have ha := spanN_take isWd (c :: r)
  rw [hm] at hl ha ⊢
  rw [List.take_succ_cons] at ha ⊢
  have hs : spanN isWd (c :: r.take m) = (c :: r.take m).length := spanN_allp isWd _ ha
  have hlen : (c :: r.take m).length ≤ 24 := by
    have := spanN_le isWd (c :: r)
    rw [hm] at this
    simp only [List.length_cons, List.length_take] at this ⊢
    omega
  have hb : isBl c = false := by simp [isLe] at hc; simp [isBl]; omega
  have hf : firstS (c :: r.take m) = some (⟨1, c :: r.take m, 0, 0⟩, (c :: r.take m).length) := by
    show (if isLe c = true then wordS (c :: r.take m) else _) = _
    rw [if_pos hc]
    unfold wordS
    rw [hs, if_neg (by omega), List.take_length]
  unfold Wd tw
  have hx : lexA 0 (c :: r.take m) = .inr [⟨1, c :: r.take m, 0, 0⟩] := by
    rw [lexA_some 0 hb hf, List.drop_length, lexA_nil]
  rw [lexO_ok (by omega) hx]
theorem first_ok {xs : List UInt8} {t : Tk} {n : Nat} (h : firstS xs = some (t, n)) : TkOk t := by
  unfold firstS at h
  split at h
  · cases h
  · rename_i c r
    split at h
    · rename_i hc
      unfold wordS at h
      split at h
      · cases h
      · rename_i hl
        cases h
        exact ⟨fun _ => word_wd hc hl, (fun e => by cases e), (fun e => by cases e)⟩
    · split at h
      · unfold numS at h
        split at h
        · cases h
        · split at h
          · cases h
          · obtain ⟨v, hv, he⟩ := Option.map_eq_some_iff.1 h
            cases he
            refine ⟨(fun e => by cases e), fun _ => ?_, (fun e => by cases e)⟩
            unfold numV at hv
            show In64 v
            unfold In64
            split at hv
            · split at hv
              · cases hv; omega
              · cases hv
            · split at hv
              · cases hv; omega
              · cases hv
      · split at h
        · unfold textS at h
          split at h
          · rename_i b m hb
            cases h
            exact ⟨(fun e => by cases e), (fun e => by cases e), fun _ => txt_len _ _ _ _ _ _ hb⟩
          · cases h
        · unfold signS at h
          split at h
          · cases h; exact ⟨(fun e => by cases e), (fun e => by cases e), (fun e => by cases e)⟩
          · cases h
theorem lexA_tok : ∀ (f : Nat) (xs : List UInt8) (a : Nat) (ts : List Tk), xs.length ≤ f → lexA a xs = .inr ts → ∀ t ∈ ts, TkOk t
  | 0, xs, a, ts, hf, h => by
    have : xs = [] := List.eq_nil_of_length_eq_zero (by omega)
    subst this
    rw [lexA_nil] at h; cases h
    intro t ht; cases ht
  | f + 1, [], a, ts, hf, h => by
    rw [lexA_nil] at h; cases h
    intro t ht; cases ht
  | f + 1, c :: r, a, ts, hf, h => by
    by_cases hb : isBl c = true
    · rw [lexA_bl a r hb] at h
      exact lexA_tok f r (a + 1) ts (by simp at hf; omega) h
    · have hb' : isBl c = false := by simpa using hb
      cases e : firstS (c :: r) with
      | none => rw [lexA_no a hb' e] at h; cases h
      | some x =>
        obtain ⟨t, n⟩ := x
        have hp := firstS_pos e
        rw [lexA_some a hb' e] at h
        cases e2 : lexA (a + n) ((c :: r).drop n) with
        | inl u => rw [e2] at h; cases h
        | inr us =>
          rw [e2] at h; cases h
          have ih := lexA_tok f ((c :: r).drop n) (a + n) us (by rw [List.length_drop]; omega) e2
          intro t' ht'
          rcases List.mem_cons.1 ht' with rfl | ht'
          · have ho := first_ok e
            exact ⟨ho.1, ho.2.1, ho.2.2⟩
          · exact ih t' ht'
theorem lex_tokok {l : List UInt8} {tks : List Tk} {a : Nat} (h : lexO l = (tks, a, 0)) (hl : (tks.map tp).length ≤ 1024) : TokOk (tks.map tp) := by
  have ha := lexA_tok l.length l 0 tks (Nat.le_refl _) (lexO_inr h)
  refine ⟨fun t ht hk => ?_, fun t ht hk => ?_, fun t ht hk => ?_, hl⟩
  all_goals
    obtain ⟨u, hu, rfl⟩ := List.mem_map.1 ht
    have hk' : (u.kind : Int) = _ := hk
    have := ha u hu
  · exact this.1 (by omega)
  · exact this.2.1 (by omega)
  · exact this.2.2 (by omega)
theorem out_nil (new : List Np) : Out [] new = (new.length - 1, new) := by
  unfold Out; rw [List.length_nil, sh_zero]; simp
theorem whole_small {ts : List Tp} {p : PN} {r : Nat × List Np} {j : Nat} (h : (wholeS ts p).2.2 = 0) (hp : p 0 [] = .ok r j) : ts.length ≤ 1024 ∧ r.2.length ≤ 128 := by
  unfold wholeS at h
  split at h
  · cases h
  · rw [hp] at h
    show _ ∧ _
    simp only at h
    split at h
    · cases h
    · split at h
      · cases h
      · omega
theorem parse_qq {ts : List Tp} (hT : TokOk ts) (h : (parseS ts).2.2 = 0) : QQ 16 (parseS ts).1 ∧ (wq (parseS ts).1).length ≤ 1024 ∧ (parseS ts).1.length ≤ 128 := by
  obtain ⟨r, j, h1, h2, h3⟩ := whole_ok (p := queryS ts 16) (fun i c e => query_bd ts 16 0 [] i c e) h
  obtain ⟨new, rfl, hq, hl⟩ := query_rt hT 16 0 [] r j h1
  have hs := whole_small h h1
  rw [out_nil] at hs h1 h3
  have e : (parseS ts).1 = new := h3
  rw [e]
  refine ⟨hq, ?_, hs.2⟩
  have hg := query_go ts 16 0 [] _ _ h1
  omega
/- A tree's check. -/
theorem nm_fresh {i : Nat} : ∀ (l seen : List Int), (∀ e ∈ l, 0 ≤ e ∧ e < (i : Int)) → (l ++ seen).Nodup → nmL i seen l = some (l.reverse ++ seen)
  | [], seen, _, _ => rfl
  | k :: r, seen, h, hn => by
    unfold nmL
    have hk := h k (by simp)
    have hns : k ∉ seen := by
      have := List.nodup_cons.1 (show (k :: (r ++ seen)).Nodup from hn)
      intro hm; exact this.1 (by simp [hm])
    rw [if_neg (by intro hc; rcases hc with hc | hc | hc <;> first | omega | exact hns hc)]
    have hp : (r ++ k :: seen).Nodup := by
      have : (k :: (r ++ seen)).Perm (r ++ k :: seen) := List.perm_middle.symm
      exact this.nodup hn
    rw [nm_fresh r (k :: seen) (fun e he => h e (by simp [he])) hp]
    simp
theorem tree_fresh : ∀ (ns : List Np) (i : Nat) (seen : List Int), (∀ (j : Nat) (n : Np), ns[j]? = some n → (n.l.length : Int) = belowN n.kind ∧ ∀ e ∈ n.l, 0 ≤ e ∧ e < ((i + j : Nat) : Int)) → (ents ns ++ seen).Nodup → treeL ns i seen = true
  | [], _, _, _, _ => rfl
  | n :: r, i, seen, h, hn => by
    unfold treeL
    obtain ⟨h1, h2⟩ := h 0 n rfl
    rw [if_pos h1]
    have e : ents (n :: r) = n.l ++ ents r := rfl
    rw [e, List.append_assoc] at hn
    have hn1 : (n.l ++ seen).Nodup := by
      refine hn.sublist ?_
      exact List.Sublist.append (List.Sublist.refl _) (List.sublist_append_right _ _)
    rw [nm_fresh n.l seen (by simpa using h2) hn1]
    refine tree_fresh r (i + 1) _ (fun j m hm => ?_) ?_
    · have := h (j + 1) m (by simpa using hm)
      rwa [show i + (j + 1) = i + 1 + j by omega] at this
    · have hp : (n.l ++ (ents r ++ seen)).Perm (ents r ++ (n.l.reverse ++ seen)) := by
        have p1 : (n.l ++ (ents r ++ seen)).Perm (ents r ++ (n.l ++ seen)) := by
          rw [← List.append_assoc, ← List.append_assoc]
          exact List.Perm.append_right _ List.perm_append_comm
        exact p1.trans (List.Perm.append_left _ (List.Perm.append_right _ (List.reverse_perm _).symm))
      exact hp.nodup hn
theorem tree_nodup {ns : List Np} (h : Tree 0 ns) : (ents ns).Nodup := by
  rw [List.nodup_iff_count]
  intro a
  by_cases hm : a ∈ ents ns
  · obtain ⟨j, rfl, h1, h2⟩ := h.range a hm
    rw [h.one j h1 h2]; exact Nat.le_refl _
  · rw [List.count_eq_zero.2 hm]; omega
theorem isTree_of {ns : List Np} (hA : AhN ns) (hT : Tree 0 ns) (hl : ns.length ≤ 128) : isTreeB ns = true := by
  unfold isTreeB
  have := hT.ne
  rw [if_neg (by omega)]
  refine tree_fresh ns 0 [] (fun j n hn => ?_) (by rw [List.append_nil]; exact tree_nodup hT)
  have := hA j (xN n) (by rw [List.getElem?_map, hn]; rfl)
  rw [Nat.zero_add]; exact this
theorem wq_read {ns : List Np} {d : Nat} (hq : QQ d ns) (hd : d = 16) (hl : (wq ns).length ≤ 1024) (hn : ns.length ≤ 128) : ∃ tks, tkS (wq ns) = some tks ∧ parseS (tks.map tp) = (ns, 0, 0) := by
  subst hd
  obtain ⟨tks, ht⟩ := toks_all (wq ns) hq.tw
  obtain ⟨h1, -⟩ := has_toks _ _ ht
  have hh := has_of ht
  have hend : ∀ x, isW (tks.map tp) (0 + (wq ns).length) x = false := fun x => none_W (by rw [List.length_map, h1]; omega) x
  obtain ⟨f, hf⟩ := hq.c (tks.map tp) 0 [] hh ⟨hend _, hend _, hend _, hend _⟩
  have hs := hf.stop (hend _)
  refine ⟨tks, ht, ?_⟩
  unfold parseS wholeS
  rw [if_neg (by rw [List.length_map, h1]; omega), hs, out_nil]
  simp only
  rw [if_neg (by rw [List.length_map, h1]; omega), if_neg (by omega)]
/- Nodes as a text's reading gives them. -/
def Zer (q : Nx) : Prop := q.h0 = 0 ∧ q.h1 = 0 ∧ q.h2 = 0 ∧ q.h3 = 0 ∧ q.h4 = 0 ∧ q.h5 = 0 ∧ q.h6 = 0 ∧ q.h7 = 0
theorem xn_zer {q : Nx} (h : Zer q) : xn q = xN q.np := by
  obtain ⟨h0, h1, h2, h3, h4, h5, h6, h7⟩ := h
  unfold xn vtx xN vtN
  rw [h0, h1, h2, h3, h4, h5, h6, h7]
theorem npk_zer {q : Nx} (h : Zer q) : npk q = npk0 q.np := by
  obtain ⟨h0, h1, h2, h3, h4, h5, h6, h7⟩ := h
  unfold npk npk0
  rw [h0, h1, h2, h3, h4, h5, h6, h7]
theorem chk_parsed {ts : List Tp} (hT : TokOk ts) (h : (parseS ts).2.2 = 0) {qs : List Nx} (hz : ∀ q ∈ qs, Zer q) (he : qs.map (·.np) = (parseS ts).1) : chkB qs = true ∧ wordsX qs = wq (parseS ts).1 := by
  obtain ⟨hq, hl, hn⟩ := parse_qq hT h
  obtain ⟨htr, -⟩ := parse_tree h
  generalize (parseS ts).1 = ns at *
  have hx : qs.map xn = ns.map xN := by rw [← he, List.map_map]; exact List.map_congr_left (fun q hq => xn_zer (hz q hq))
  have hlen : qs.length = ns.length := by rw [← he, List.length_map]
  have hw : wordsX qs = wq ns := by unfold wordsX wq; rw [hx, hlen]
  obtain ⟨tks, ht, hp⟩ := wq_read hq rfl hl hn
  have hr : readX qs = (ns, 0, 0) := by unfold readX tokensS; rw [hw, ht]; exact hp
  have hk : qs.map npk = ns.map npk0 := by rw [← he, List.map_map]; exact List.map_congr_left (fun q hq => npk_zer (hz q hq))
  refine ⟨?_, hw⟩
  unfold chkB
  rw [he, isTree_of hq.ah htr hn, hr, hk]
  simp
end Go.Proofs.YtmpjmimhoikknaaGreatDoor
