/-
  A query with one of the six steps behind it.
-/
import Derived.Test.YtomnjckbgmbgmaaGreatDoorQCutN
import Derived.Test.YtomnjckbgmbgmaaGreatDoorQLexB
import Derived.Test.YtomnjckbgmbgmaaGreatDoorQPRn
namespace Go.Proofs.YtomnjckbgmbgmaaGreatDoor
open Go.RowKit Go.Joins

def sufs : List (List UInt8) := [[32, 124, 32, 107, 101, 101, 112, 32, 97], [32, 124, 32, 97, 108, 105, 103, 110, 32, 53], [32, 124, 32, 116, 111, 112, 32, 51, 32, 98, 121, 32, 98], [32, 124, 32, 103, 114, 111, 117, 112, 32, 99, 32, 58, 32, 99, 111, 117, 110, 116], [32, 124, 32, 119, 104, 101, 114, 101, 32, 100, 32, 61, 32, 49], [32, 124, 32, 117, 110, 105, 111, 110, 32, 40, 102, 101, 116, 99, 104, 32, 101, 41]]
theorem joinT_inr {ts us : List Tk} : joinT ts (.inr us) = .inr (ts ++ us) := rfl
/- The tokens of both. -/
theorem lex_suf {l : List UInt8} {tks : List Tk} {a : Nat} {x : List UInt8} {sg : List (Nat × List UInt8 × Int)} {e0 : List Tk} (h : lexO l = (tks, a, 0)) (hx : ∃ r, x = 32 :: r) (he : lexA 0 x = .inr e0) (hs : e0.map sig = sg) {T : List Tk} {b : Nat} {e : Int} (h2 : lexO (l ++ x) = (T, b, e)) (he0 : e = 0) : ∃ us, T = tks ++ us ∧ us.map sig = sg := by
  subst he0
  obtain ⟨r, rfl⟩ := hx
  have h3 := lexA_app (b := 32) (by decide) r l.length l 0 tks (Nat.le_refl _) (lexO_inr h)
  obtain ⟨us, hu1, hu2⟩ := lexA_move (32 :: r).length (32 :: r) 0 (0 + l.length) e0 (Nat.le_refl _) he
  rw [hu1, joinT_inr, lexO_inr h2] at h3
  cases h3
  exact ⟨us, rfl, by rw [hu2, hs]⟩
theorem sig_cons {us : List Tk} {k : Nat} {s : List UInt8} {n : Int} {sg : List (Nat × List UInt8 × Int)} (h : us.map sig = (k, s, n) :: sg) : ∃ a r, us = ⟨k, s, n, a⟩ :: r ∧ r.map sig = sg := by
  cases us with
  | nil => cases h
  | cons t r =>
    simp only [List.map_cons, List.cons.injEq, sig, Prod.mk.injEq] at h
    obtain ⟨⟨rfl, rfl, rfl⟩, h2⟩ := h
    exact ⟨t.at_, r, rfl, h2⟩
theorem sig_nil {us : List Tk} (h : us.map sig = []) : us = [] := List.map_eq_nil_iff.1 h
/- What is asked of the second answer. -/
def CutR (A Bn : List Np) (m : Nat) : Prop := ∃ tail x, Bn = A ++ tail ∧ tail.length = m ∧ tail[m - 1]? = some x ∧ x.l.head? = some ((A.length - 1 : Nat) : Int) ∧ 0 < A.length
theorem whole_is {ts : List Tp} {p : PN} {r : Nat × List Np} {j : Nat} (hp : p 0 [] = .ok r j) (h : (wholeS ts p).2.2 = 0) : (wholeS ts p).1 = r.2 := by
  unfold wholeS at h ⊢
  split at h
  · simp at h
  · rename_i hl
    rw [if_neg hl, hp]
    rw [hp] at h
    simp only at h ⊢
    split at h
    · simp at h
    · rename_i h1
      rw [if_neg h1]
      split at h
      · simp at h
      · rename_i h2; rw [if_neg h2]
theorem cut_of {ts us : List Tp} {A : List Np} {a m j : Nat} {x : Np} {tail : List Np} (hb : Bar us) (hA : parseS ts = (A, a, 0)) (hs : stepB (ts ++ us) (condS (ts ++ us) 16) (some (queryS (ts ++ us) 15)) (A.length - 1) (ts.length + 1) A = .ok (x, A ++ tail) (ts.length + j)) (he : isW us j wBar = false) (hm : tail.length + 1 = m) (hx : x.l.head? = some ((A.length - 1 : Nat) : Int)) (h : (parseS (ts ++ us)).2.2 = 0) : CutR A (parseS (ts ++ us)).1 m := by
  have hne := (parse_tree (ts := ts) (by rw [hA])).1.ne
  rw [hA] at hne
  obtain ⟨F, hF, e⟩ := query_on hb hA
  obtain ⟨b, r, hu, hk1, hk2⟩ := id hb
  have h0 : isW us 0 wBar = true := by rw [hu]; simp [isW, hk1, hk2]
  rw [steps_one h0 hs he (by rw [hu] at hF; simp at hF; omega)] at e
  refine ⟨tail ++ [x], x, ?_, by simp; omega, ?_, hx, hne⟩
  · have := whole_is (ts := ts ++ us) e h
    unfold parseS
    rw [this]; simp
  · rw [← hm]; simp
theorem queryO_ok {l : List UInt8} (h : (queryO l).2.2 = 0) : ∃ tks a, lexO l = (tks, a, 0) ∧ (parseS (tks.map tp)).2.2 = 0 ∧ (queryO l).1 = (parseS (tks.map tp)).1 := by
  unfold queryO at h ⊢
  generalize lexO l = O at *
  obtain ⟨tks, a, e⟩ := O
  simp only at h ⊢
  split at h
  · rename_i he
    subst he
    split at h
    · rename_i h1
      exact ⟨tks, a, rfl, h1, by rw [if_pos rfl, if_pos h1]⟩
    · rename_i h1; exact absurd h h1
  · rename_i he; exact absurd h he
theorem trip {ts : List Tp} (h : (parseS ts).2.2 = 0) : parseS ts = ((parseS ts).1, (parseS ts).2.1, 0) := by rw [← h]
theorem cut_is (l : List UInt8) (k : Nat) (hk : k < 6) (h1 : (queryO l).2.2 = 0) (h2 : (queryO (l ++ sufs.getD k [])).2.2 = 0) : CutR (queryO l).1 (queryO (l ++ sufs.getD k [])).1 (if 3 < k then 2 else 1) := by
  obtain ⟨tks, a, e1, e2, e3⟩ := queryO_ok h1
  obtain ⟨T, b, f1, f2, f3⟩ := queryO_ok h2
  rw [e3, f3]
  match k, hk with
  | 0, _ =>
    obtain ⟨us, rfl, hu0⟩ := lex_suf (x := [32, 124, 32, 107, 101, 101, 112, 32, 97]) e1 ⟨_, rfl⟩ (e0 := [⟨4, [124], 0, 1⟩, ⟨1, [107, 101, 101, 112], 0, 3⟩, ⟨1, [97], 0, 8⟩]) (by decide +kernel) rfl f1 rfl
    obtain ⟨a0, r0, rfl, hu1⟩ := sig_cons hu0
    obtain ⟨a1, r1, rfl, hu2⟩ := sig_cons hu1
    obtain ⟨a2, r2, rfl, hu3⟩ := sig_cons hu2
    obtain rfl := sig_nil hu3
    rw [List.map_append] at f2 ⊢
    exact cut_of (us := us_keep a0 a1 a2) ⟨_, _, rfl, rfl, rfl⟩ (trip e2) (tail := []) (by rw [List.append_nil]; exact step_keep a0 a1 a2 _ _ _ _) rfl rfl rfl f2
  | 1, _ =>
    obtain ⟨us, rfl, hu0⟩ := lex_suf (x := [32, 124, 32, 97, 108, 105, 103, 110, 32, 53]) e1 ⟨_, rfl⟩ (e0 := [⟨4, [124], 0, 1⟩, ⟨1, [97, 108, 105, 103, 110], 0, 3⟩, ⟨2, [], 5, 9⟩]) (by decide +kernel) rfl f1 rfl
    obtain ⟨a0, r0, rfl, hu1⟩ := sig_cons hu0
    obtain ⟨a1, r1, rfl, hu2⟩ := sig_cons hu1
    obtain ⟨a2, r2, rfl, hu3⟩ := sig_cons hu2
    obtain rfl := sig_nil hu3
    rw [List.map_append] at f2 ⊢
    exact cut_of (us := us_align a0 a1 a2) ⟨_, _, rfl, rfl, rfl⟩ (trip e2) (tail := []) (by rw [List.append_nil]; exact step_align a0 a1 a2 _ _ _ _) rfl rfl rfl f2
  | 2, _ =>
    obtain ⟨us, rfl, hu0⟩ := lex_suf (x := [32, 124, 32, 116, 111, 112, 32, 51, 32, 98, 121, 32, 98]) e1 ⟨_, rfl⟩ (e0 := [⟨4, [124], 0, 1⟩, ⟨1, [116, 111, 112], 0, 3⟩, ⟨2, [], 3, 7⟩, ⟨1, [98, 121], 0, 9⟩, ⟨1, [98], 0, 12⟩]) (by decide +kernel) rfl f1 rfl
    obtain ⟨a0, r0, rfl, hu1⟩ := sig_cons hu0
    obtain ⟨a1, r1, rfl, hu2⟩ := sig_cons hu1
    obtain ⟨a2, r2, rfl, hu3⟩ := sig_cons hu2
    obtain ⟨a3, r3, rfl, hu4⟩ := sig_cons hu3
    obtain ⟨a4, r4, rfl, hu5⟩ := sig_cons hu4
    obtain rfl := sig_nil hu5
    rw [List.map_append] at f2 ⊢
    exact cut_of (us := us_top a0 a1 a2 a3 a4) ⟨_, _, rfl, rfl, rfl⟩ (trip e2) (tail := []) (by rw [List.append_nil]; exact step_top a0 a1 a2 a3 a4 _ _ _ _) rfl rfl rfl f2
  | 3, _ =>
    obtain ⟨us, rfl, hu0⟩ := lex_suf (x := [32, 124, 32, 103, 114, 111, 117, 112, 32, 99, 32, 58, 32, 99, 111, 117, 110, 116]) e1 ⟨_, rfl⟩ (e0 := [⟨4, [124], 0, 1⟩, ⟨1, [103, 114, 111, 117, 112], 0, 3⟩, ⟨1, [99], 0, 9⟩, ⟨4, [58], 0, 11⟩, ⟨1, [99, 111, 117, 110, 116], 0, 13⟩]) (by decide +kernel) rfl f1 rfl
    obtain ⟨a0, r0, rfl, hu1⟩ := sig_cons hu0
    obtain ⟨a1, r1, rfl, hu2⟩ := sig_cons hu1
    obtain ⟨a2, r2, rfl, hu3⟩ := sig_cons hu2
    obtain ⟨a3, r3, rfl, hu4⟩ := sig_cons hu3
    obtain ⟨a4, r4, rfl, hu5⟩ := sig_cons hu4
    obtain rfl := sig_nil hu5
    rw [List.map_append] at f2 ⊢
    exact cut_of (us := us_group a0 a1 a2 a3 a4) ⟨_, _, rfl, rfl, rfl⟩ (trip e2) (tail := []) (by rw [List.append_nil]; exact step_group a0 a1 a2 a3 a4 _ _ _ _) rfl rfl rfl f2
  | 4, _ =>
    obtain ⟨us, rfl, hu0⟩ := lex_suf (x := [32, 124, 32, 119, 104, 101, 114, 101, 32, 100, 32, 61, 32, 49]) e1 ⟨_, rfl⟩ (e0 := [⟨4, [124], 0, 1⟩, ⟨1, [119, 104, 101, 114, 101], 0, 3⟩, ⟨1, [100], 0, 9⟩, ⟨4, [61], 0, 11⟩, ⟨2, [], 1, 13⟩]) (by decide +kernel) rfl f1 rfl
    obtain ⟨a0, r0, rfl, hu1⟩ := sig_cons hu0
    obtain ⟨a1, r1, rfl, hu2⟩ := sig_cons hu1
    obtain ⟨a2, r2, rfl, hu3⟩ := sig_cons hu2
    obtain ⟨a3, r3, rfl, hu4⟩ := sig_cons hu3
    obtain ⟨a4, r4, rfl, hu5⟩ := sig_cons hu4
    obtain rfl := sig_nil hu5
    rw [List.map_append] at f2 ⊢
    exact cut_of (us := us_where a0 a1 a2 a3 a4) ⟨_, _, rfl, rfl, rfl⟩ (trip e2) (step_where a0 a1 a2 a3 a4 16 _ _) rfl rfl rfl f2
  | 5, _ =>
    obtain ⟨us, rfl, hu0⟩ := lex_suf (x := [32, 124, 32, 117, 110, 105, 111, 110, 32, 40, 102, 101, 116, 99, 104, 32, 101, 41]) e1 ⟨_, rfl⟩ (e0 := [⟨4, [124], 0, 1⟩, ⟨1, [117, 110, 105, 111, 110], 0, 3⟩, ⟨4, [40], 0, 9⟩, ⟨1, [102, 101, 116, 99, 104], 0, 10⟩, ⟨1, [101], 0, 16⟩, ⟨4, [41], 0, 17⟩]) (by decide +kernel) rfl f1 rfl
    obtain ⟨a0, r0, rfl, hu1⟩ := sig_cons hu0
    obtain ⟨a1, r1, rfl, hu2⟩ := sig_cons hu1
    obtain ⟨a2, r2, rfl, hu3⟩ := sig_cons hu2
    obtain ⟨a3, r3, rfl, hu4⟩ := sig_cons hu3
    obtain ⟨a4, r4, rfl, hu5⟩ := sig_cons hu4
    obtain ⟨a5, r5, rfl, hu6⟩ := sig_cons hu5
    obtain rfl := sig_nil hu6
    rw [List.map_append] at f2 ⊢
    exact cut_of (us := us_union a0 a1 a2 a3 a4 a5) ⟨_, _, rfl, rfl, rfl⟩ (trip e2) (step_union a0 a1 a2 a3 a4 a5 15 _ _) rfl rfl rfl f2
end Go.Proofs.YtomnjckbgmbgmaaGreatDoor
