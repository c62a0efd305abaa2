/-
  The steps of ParseCuts, behind any query.
-/
import Derived.Test.YtomnjckbgmbgmaaGreatDoorQCutM
namespace Go.Proofs.YtomnjckbgmbgmaaGreatDoor

section
variable {ts us : List Tp}
theorem idx_app (k : Nat) : ∀ (ws : List (List UInt8)) (m : Nat), idxOf (ts ++ us) (ts.length + k) ws m = idxOf us k ws m
  | [], _ => rfl
  | x :: r, m => by unfold idxOf; rw [isW_app, idx_app k r (m + 1)]
theorem one_app {ws : List (List UInt8)} {k m : Nat} (h : idxOf us k ws 0 = some m) : oneOfS (ts ++ us) ws (ts.length + k) = .ok m (ts.length + (k + 1)) := by
  unfold oneOfS; rw [idx_app, h]; rfl
theorem take_app {kd : Int} {k : Nat} {t : Tp} (h : us[k]? = some t) (hk : t.kind = kd) : takeS (ts ++ us) kd (ts.length + k) = .ok t (ts.length + (k + 1)) := by
  unfold takeS
  have e : isK us k kd = true := by unfold isK; rw [h]; simp [hk]
  have e2 : hereS us k = t := by unfold hereS; rw [h]; rfl
  rw [isK_app, here_app, e, e2]; rfl
theorem name_app {k : Nat} {t : Tp} (h : us[k]? = some t) (hk : t.kind = 1) : nameS (ts ++ us) (ts.length + k) = .ok t.s (ts.length + (k + 1)) := by unfold nameS; rw [take_app h hk]; rfl
theorem num_app {k : Nat} {t : Tp} (h : us[k]? = some t) (hk : t.kind = 2) : numS' (ts ++ us) (ts.length + k) = .ok t.n (ts.length + (k + 1)) := by unfold numS'; rw [take_app h hk]; rfl
theorem want_app {k : Nat} {x : List UInt8} (h : isW us k x = true) : wantS (ts ++ us) x (ts.length + k) = .ok () (ts.length + (k + 1)) := by unfold wantS; rw [isW_app, h]; rfl
theorem more_end {α : Type} {one : Nat → Rs α} {F k : Nat} {acc : List α} (h : isW us k wComma = false) : moreS (ts ++ us) one F acc (ts.length + k) = .ok acc (ts.length + k) := by
  cases F with
  | zero => rfl
  | succ F => rw [moreS, isW_app, h]; rfl
theorem list_app {α : Type} {one : Nat → Rs α} {k j : Nat} {x : α} (h : one (ts.length + k) = .ok x (ts.length + j)) (hw : isW us j wComma = false) : listS (ts ++ us) one (ts.length + k) = .ok [x] (ts.length + j) := by
  unfold listS; rw [h]; exact more_end hw
theorem chain_end {x : List UInt8} {kind : Int} {p : PN} {F a k : Nat} {ns : List Np} (h : isW us k x = false) : chainL (ts ++ us) x kind p F a (ts.length + k) ns = .ok (a, ns) (ts.length + k) := by
  cases F with
  | zero => rfl
  | succ F => rw [chainL, isW_app, h]; rfl
theorem steps_end {s : Nat → Nat → List Np → Rs (Np × List Np)} {F a k : Nat} {ns : List Np} (h : isW us k wBar = false) : stepsL (ts ++ us) s F a (ts.length + k) ns = .ok (a, ns) (ts.length + k) := by
  cases F with
  | zero => rfl
  | succ F => rw [stepsL, isW_app, h]; rfl
theorem steps_one {s : Nat → Nat → List Np → Rs (Np × List Np)} {F a j : Nat} {ns : List Np} {r : Np × List Np} (h : isW us 0 wBar = true) (hs : s a (ts.length + 1) ns = .ok r (ts.length + j)) (he : isW us j wBar = false) (hF : 0 < F) : stepsL (ts ++ us) s F a ts.length ns = .ok (r.2.length, r.2 ++ [r.1]) (ts.length + j) := by
  obtain ⟨F', rfl⟩ : ∃ n, F = n + 1 := ⟨F - 1, by omega⟩
  have e0 : isW (ts ++ us) ts.length wBar = true := by have := isW_app (ts := ts) (us := us) 0 wBar; rw [Nat.add_zero] at this; rw [this, h]
  rw [stepsL, e0, if_pos rfl, hs]
  exact steps_end he
/- keep -/
abbrev us_keep (a0 a1 a2 : Int) : List Tp := [⟨4, [124], 0, a0⟩, ⟨1, [107, 101, 101, 112], 0, a1⟩, ⟨1, [97], 0, a2⟩]
theorem step_keep (a0 a1 a2 : Int)  (c : PN) (o : Option PN) (a : Nat) (A : List Np) : stepB (ts ++ us_keep a0 a1 a2) c o a (ts.length + 1) A = .ok ({ laidN 3 a with names := [[97]] }, A) (ts.length + 3) := by
  unfold stepB; rw [one_app (k := 1) (m := 1) rfl]; simp only [Rs.and]; rw [list_app (k := 2) (name_app (k := 2) rfl rfl) rfl]
/- align -/
abbrev us_align (a0 a1 a2 : Int) : List Tp := [⟨4, [124], 0, a0⟩, ⟨1, [97, 108, 105, 103, 110], 0, a1⟩, ⟨2, [], 5, a2⟩]
theorem step_align (a0 a1 a2 : Int)  (c : PN) (o : Option PN) (a : Nat) (A : List Np) : stepB (ts ++ us_align a0 a1 a2) c o a (ts.length + 1) A = .ok ({ laidN 4 a with n := 5 }, A) (ts.length + 3) := by
  unfold stepB; rw [one_app (k := 1) (m := 2) rfl]; simp only [Rs.and]; rw [num_app (k := 2) rfl rfl]
/- top -/
abbrev us_top (a0 a1 a2 a3 a4 : Int) : List Tp := [⟨4, [124], 0, a0⟩, ⟨1, [116, 111, 112], 0, a1⟩, ⟨2, [], 3, a2⟩, ⟨1, [98, 121], 0, a3⟩, ⟨1, [98], 0, a4⟩]
theorem step_top (a0 a1 a2 a3 a4 : Int)  (c : PN) (o : Option PN) (a : Nat) (A : List Np) : stepB (ts ++ us_top a0 a1 a2 a3 a4) c o a (ts.length + 1) A = .ok ({ laidN 6 a with n := 3, s := [98] }, A) (ts.length + 5) := by
  unfold stepB; rw [one_app (k := 1) (m := 4) rfl]; simp only [Rs.and]; rw [num_app (k := 2) rfl rfl]; simp only []; rw [want_app (k := 3) rfl]; simp only []; rw [name_app (k := 4) rfl rfl]
/- group -/
abbrev us_group (a0 a1 a2 a3 a4 : Int) : List Tp := [⟨4, [124], 0, a0⟩, ⟨1, [103, 114, 111, 117, 112], 0, a1⟩, ⟨1, [99], 0, a2⟩, ⟨4, [58], 0, a3⟩, ⟨1, [99, 111, 117, 110, 116], 0, a4⟩]
theorem step_group (a0 a1 a2 a3 a4 : Int)  (c : PN) (o : Option PN) (a : Nat) (A : List Np) : stepB (ts ++ us_group a0 a1 a2 a3 a4) c o a (ts.length + 1) A = .ok ({ laidN 5 a with names := [[99]], aggs := [(1, [])] }, A) (ts.length + 5) := by
  have ea : aggS (ts ++ us_group a0 a1 a2 a3 a4) (ts.length + 4) = .ok (1, []) (ts.length + 5) := by unfold aggS; rw [one_app (k := 4) (m := 0) rfl]; rfl
  unfold stepB; rw [one_app (k := 1) (m := 3) rfl]; simp only [Rs.and]; rw [isW_app (us := us_group a0 a1 a2 a3 a4) 2 wColon, show isW (us_group a0 a1 a2 a3 a4) 2 wColon = false from rfl, if_neg (by decide), list_app (k := 2) (name_app (k := 2) rfl rfl) rfl]; simp only []; rw [want_app (k := 3) rfl]; simp only []; rw [list_app (k := 4) ea rfl]
/- where -/
abbrev us_where (a0 a1 a2 a3 a4 : Int) : List Tp := [⟨4, [124], 0, a0⟩, ⟨1, [119, 104, 101, 114, 101], 0, a1⟩, ⟨1, [100], 0, a2⟩, ⟨4, [61], 0, a3⟩, ⟨2, [], 1, a4⟩]
theorem test_where (a0 a1 a2 a3 a4 : Int) : testS (ts ++ us_where a0 a1 a2 a3 a4) (ts.length + 2) = .ok { n0 with kind := 14, s := [100], n := 1, vk := 1, vn := 1 } (ts.length + 5) := by
  have ev : valueS (ts ++ us_where a0 a1 a2 a3 a4) (ts.length + 4) = .ok (1, 1, []) (ts.length + 5) := by unfold valueS; rw [isK_app (us := us_where a0 a1 a2 a3 a4) 4 2, show isK (us_where a0 a1 a2 a3 a4) 4 2 = true from rfl, if_pos rfl, num_app (k := 4) rfl rfl]; rfl
  unfold testS; rw [name_app (k := 2) rfl rfl]; simp only [Rs.and]; rw [isW_app (us := us_where a0 a1 a2 a3 a4) 3 wHas, show isW (us_where a0 a1 a2 a3 a4) 3 wHas = false from rfl, if_neg (by decide), one_app (k := 3) (m := 0) rfl]; simp only []; rw [ev]; rfl
theorem cond_where (a0 a1 a2 a3 a4 : Int) (d : Nat) (A : List Np) : condS (ts ++ us_where a0 a1 a2 a3 a4) d (ts.length + 2) A = .ok (A.length, A ++ [{ n0 with kind := 14, s := [100], n := 1, vk := 1, vn := 1 }]) (ts.length + 5) := by
  have en : ∀ o, notB (ts ++ us_where a0 a1 a2 a3 a4) o (ts.length + 2) A = .ok (A.length, A ++ [{ n0 with kind := 14, s := [100], n := 1, vk := 1, vn := 1 }]) (ts.length + 5) := by
    intro o
    unfold notB; rw [isW_app (us := us_where a0 a1 a2 a3 a4) 2 wNot, show isW (us_where a0 a1 a2 a3 a4) 2 wNot = false from rfl, if_neg (by decide), isW_app (us := us_where a0 a1 a2 a3 a4) 2 wOpen, show isW (us_where a0 a1 a2 a3 a4) 2 wOpen = false from rfl, if_neg (by decide), test_where]; rfl
  have en2 : notS (ts ++ us_where a0 a1 a2 a3 a4) d (ts.length + 2) A = .ok (A.length, A ++ [{ n0 with kind := 14, s := [100], n := 1, vk := 1, vn := 1 }]) (ts.length + 5) := by
    cases d <;> exact en _
  unfold condS condB bothB chainS; rw [en2]; simp only [Rs.and]; rw [chain_end (us := us_where a0 a1 a2 a3 a4) (k := 5) rfl]; simp only []; rw [chain_end (us := us_where a0 a1 a2 a3 a4) (k := 5) rfl]
theorem step_where (a0 a1 a2 a3 a4 : Int) (d : Nat) (a : Nat) (A : List Np) : stepB (ts ++ us_where a0 a1 a2 a3 a4) (condS (ts ++ us_where a0 a1 a2 a3 a4) d) (some (queryS (ts ++ us_where a0 a1 a2 a3 a4) 15)) a (ts.length + 1) A = .ok ({ n0 with kind := 2, l := [(a : Int), (A.length : Int)] }, A ++ [{ n0 with kind := 14, s := [100], n := 1, vk := 1, vn := 1 }]) (ts.length + 5) := by
  unfold stepB; rw [one_app (k := 1) (m := 0) rfl]; simp only [Rs.and]; rw [cond_where]
/- union -/
abbrev us_union (a0 a1 a2 a3 a4 a5 : Int) : List Tp := [⟨4, [124], 0, a0⟩, ⟨1, [117, 110, 105, 111, 110], 0, a1⟩, ⟨4, [40], 0, a2⟩, ⟨1, [102, 101, 116, 99, 104], 0, a3⟩, ⟨1, [101], 0, a4⟩, ⟨4, [41], 0, a5⟩]
theorem fetch_union (a0 a1 a2 a3 a4 a5 : Int) : fetchS (ts ++ us_union a0 a1 a2 a3 a4 a5) (ts.length + 3) = .ok { n0 with kind := 1, s := [101], to_ := 1099511627775 } (ts.length + 5) := by
  unfold fetchS; rw [want_app (k := 3) rfl]; simp only [Rs.and]; rw [name_app (k := 4) rfl rfl]; simp only []; rw [isW_app (us := us_union a0 a1 a2 a3 a4 a5) 5 wFrom, show isW (us_union a0 a1 a2 a3 a4 a5) 5 wFrom = false from rfl, if_neg (by decide)]
theorem query_union (a0 a1 a2 a3 a4 a5 : Int) (d : Nat) (A : List Np) : queryS (ts ++ us_union a0 a1 a2 a3 a4 a5) d (ts.length + 3) A = .ok (A.length, A ++ [{ n0 with kind := 1, s := [101], to_ := 1099511627775 }]) (ts.length + 5) := by
  have eq : ∀ c o, queryB (ts ++ us_union a0 a1 a2 a3 a4 a5) c o (ts.length + 3) A = .ok (A.length, A ++ [{ n0 with kind := 1, s := [101], to_ := 1099511627775 }]) (ts.length + 5) := by
    intro c o
    unfold queryB; rw [fetch_union]; simp only [Rs.and]; rw [steps_end (us := us_union a0 a1 a2 a3 a4 a5) (k := 5) rfl]
  cases d <;> exact eq _ _
theorem step_union (a0 a1 a2 a3 a4 a5 : Int) (d : Nat) (a : Nat) (A : List Np) : stepB (ts ++ us_union a0 a1 a2 a3 a4 a5) (condS (ts ++ us_union a0 a1 a2 a3 a4 a5) 16) (some (queryS (ts ++ us_union a0 a1 a2 a3 a4 a5) d)) a (ts.length + 1) A = .ok ({ n0 with kind := 8, l := [(a : Int), (A.length : Int)] }, A ++ [{ n0 with kind := 1, s := [101], to_ := 1099511627775 }]) (ts.length + 6) := by
  unfold stepB; rw [one_app (k := 1) (m := 6) rfl]; simp only [Rs.and]; unfold inBr; rw [isW_app (us := us_union a0 a1 a2 a3 a4 a5) 2 wOpen, show isW (us_union a0 a1 a2 a3 a4 a5) 2 wOpen = true from rfl, if_pos rfl]; simp only []; rw [query_union]; simp only [Rs.and]; rw [want_app (k := 5) rfl]
end
end Go.Proofs.YtomnjckbgmbgmaaGreatDoor
