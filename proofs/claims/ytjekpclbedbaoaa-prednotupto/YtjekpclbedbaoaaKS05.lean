/-
  The steps of ParseCuts, behind any query.
  Rows of a call's own, what stays, how the reader and its nodes lie in memory.
  What the reader's small functions return.
-/
import Derived.Test.YtjekpclbedbaoaaKS01
import Derived.Test.YtjekpclbedbaoaaKS03
import Derived.Test.YtjekpclbedbaoaaKS04
import Derived.Deep.RegionHeld
import Derived.Deep.RegionHeld3
import Derived.Deep.RegionLaw
import Derived.Deep.MidRow
import Derived.Laws.AppendOwnNone
import Derived.OwnWalk
import Derived.Lib.SmallJoins
import Derived.Lib.OwnKind
import Derived.Lib.QuietBelow
import Derived.Shelf.Abstract
namespace Go.Proofs.Ytjekpclbedbaoaa

section
variable {ts us : List Tp}
theorem idx_app (k : Nat) : ∀ (ws : List (List UInt8)) (m : Nat), idxOf (ts ++ us) (ts.length + k) ws m = idxOf us k ws m
  | [], _ => rfl
  | x :: r, m => by unfold idxOf; rw [isW_app, idx_app k r (m + 1)]
theorem one_app {ws : List (List UInt8)} {k m : Nat} (h : idxOf us k ws 0 = some m) : oneOfS (ts ++ us) ws (ts.length + k) = .ok m (ts.length + (k + 1)) := by
  unfold oneOfS; rw [idx_app, h]; rfl
theorem take_app {kd : Int} {k : Nat} {t : Tp} (h : us[k]? = some t) (hk : t.kind = kd) : takeS (ts ++ us) kd (ts.length + k) = .ok t (ts.length + (k + 1)) := by
  unfold takeS
  have e : isK us k kd = true := by unfold isK; rw [h]; simp [hk]
  have e2 : hereS us k = t := by unfold hereS; rw [h]; rfl
  rw [isK_app, here_app, e, e2]; rfl
theorem name_app {k : Nat} {t : Tp} (h : us[k]? = some t) (hk : t.kind = 1) : nameS (ts ++ us) (ts.length + k) = .ok t.s (ts.length + (k + 1)) := by unfold nameS; rw [take_app h hk]; rfl
theorem num_app {k : Nat} {t : Tp} (h : us[k]? = some t) (hk : t.kind = 2) : numS' (ts ++ us) (ts.length + k) = .ok t.n (ts.length + (k + 1)) := by unfold numS'; rw [take_app h hk]; rfl
theorem want_app {k : Nat} {x : List UInt8} (h : isW us k x = true) : wantS (ts ++ us) x (ts.length + k) = .ok () (ts.length + (k + 1)) := by unfold wantS; rw [isW_app, h]; rfl
theorem more_end {α : Type} {one : Nat → Rs α} {F k : Nat} {acc : List α} (h : isW us k wComma = false) : moreS (ts ++ us) one F acc (ts.length + k) = .ok acc (ts.length + k) := by
  cases F with
  | zero => rfl
  | succ F => rw [moreS, isW_app, h]; rfl
theorem list_app {α : Type} {one : Nat → Rs α} {k j : Nat} {x : α} (h : one (ts.length + k) = .ok x (ts.length + j)) (hw : isW us j wComma = false) : listS (ts ++ us) one (ts.length + k) = .ok [x] (ts.length + j) := by
  unfold listS; rw [h]; exact more_end hw
theorem chain_end {x : List UInt8} {kind : Int} {p : PN} {F a k : Nat} {ns : List Np} (h : isW us k x = false) : chainL (ts ++ us) x kind p F a (ts.length + k) ns = .ok (a, ns) (ts.length + k) := by
  cases F with
  | zero => rfl
  | succ F => rw [chainL, isW_app, h]; rfl
theorem steps_end {s : Nat → Nat → List Np → Rs (Np × List Np)} {F a k : Nat} {ns : List Np} (h : isW us k wBar = false) : stepsL (ts ++ us) s F a (ts.length + k) ns = .ok (a, ns) (ts.length + k) := by
  cases F with
  | zero => rfl
  | succ F => rw [stepsL, isW_app, h]; rfl
theorem steps_one {s : Nat → Nat → List Np → Rs (Np × List Np)} {F a j : Nat} {ns : List Np} {r : Np × List Np} (h : isW us 0 wBar = true) (hs : s a (ts.length + 1) ns = .ok r (ts.length + j)) (he : isW us j wBar = false) (hF : 0 < F) : stepsL (ts ++ us) s F a ts.length ns = .ok (r.2.length, r.2 ++ [r.1]) (ts.length + j) := by
  obtain ⟨F', rfl⟩ : ∃ n, F = n + 1 := ⟨F - 1, by omega⟩
  have e0 : isW (ts ++ us) ts.length wBar = true := by have := isW_app (ts := ts) (us := us) 0 wBar; rw [Nat.add_zero] at this; rw [this, h]
  rw [stepsL, e0, if_pos rfl, hs]
  exact steps_end he
/- keep -/
abbrev us_keep (a0 a1 a2 : Int) : List Tp := [⟨4, [124], 0, a0⟩, ⟨1, [107, 101, 101, 112], 0, a1⟩, ⟨1, [97], 0, a2⟩]
theorem step_keep (a0 a1 a2 : Int)  (c : PN) (o : Option PN) (a : Nat) (A : List Np) : stepB (ts ++ us_keep a0 a1 a2) c o a (ts.length + 1) A = .ok ({ laidN 3 a with names := [[97]] }, A) (ts.length + 3) := by
  unfold stepB; rw [one_app (k := 1) (m := 1) rfl]; simp only [Rs.and]; rw [list_app (k := 2) (name_app (k := 2) rfl rfl) rfl]
/- align -/
abbrev us_align (a0 a1 a2 : Int) : List Tp := [⟨4, [124], 0, a0⟩, ⟨1, [97, 108, 105, 103, 110], 0, a1⟩, ⟨2, [], 5, a2⟩]
theorem step_align (a0 a1 a2 : Int)  (c : PN) (o : Option PN) (a : Nat) (A : List Np) : stepB (ts ++ us_align a0 a1 a2) c o a (ts.length + 1) A = .ok ({ laidN 4 a with n := 5 }, A) (ts.length + 3) := by
  unfold stepB; rw [one_app (k := 1) (m := 2) rfl]; simp only [Rs.and]; rw [num_app (k := 2) rfl rfl]
/- top -/
abbrev us_top (a0 a1 a2 a3 a4 : Int) : List Tp := [⟨4, [124], 0, a0⟩, ⟨1, [116, 111, 112], 0, a1⟩, ⟨2, [], 3, a2⟩, ⟨1, [98, 121], 0, a3⟩, ⟨1, [98], 0, a4⟩]
theorem step_top (a0 a1 a2 a3 a4 : Int)  (c : PN) (o : Option PN) (a : Nat) (A : List Np) : stepB (ts ++ us_top a0 a1 a2 a3 a4) c o a (ts.length + 1) A = .ok ({ laidN 6 a with n := 3, s := [98] }, A) (ts.length + 5) := by
  unfold stepB; rw [one_app (k := 1) (m := 4) rfl]; simp only [Rs.and]; rw [num_app (k := 2) rfl rfl]; simp only []; rw [want_app (k := 3) rfl]; simp only []; rw [name_app (k := 4) rfl rfl]
/- group -/
abbrev us_group (a0 a1 a2 a3 a4 : Int) : List Tp := [⟨4, [124], 0, a0⟩, ⟨1, [103, 114, 111, 117, 112], 0, a1⟩, ⟨1, [99], 0, a2⟩, ⟨4, [58], 0, a3⟩, ⟨1, [99, 111, 117, 110, 116], 0, a4⟩]
theorem step_group (a0 a1 a2 a3 a4 : Int)  (c : PN) (o : Option PN) (a : Nat) (A : List Np) : stepB (ts ++ us_group a0 a1 a2 a3 a4) c o a (ts.length + 1) A = .ok ({ laidN 5 a with names := [[99]], aggs := [(1, [])] }, A) (ts.length + 5) := by
  have ea : aggS (ts ++ us_group a0 a1 a2 a3 a4) (ts.length + 4) = .ok (1, []) (ts.length + 5) := by unfold aggS; rw [one_app (k := 4) (m := 0) rfl]; rfl
  unfold stepB; rw [one_app (k := 1) (m := 3) rfl]; simp only [Rs.and]; rw [isW_app (us := us_group a0 a1 a2 a3 a4) 2 wColon, show isW (us_group a0 a1 a2 a3 a4) 2 wColon = false from rfl, if_neg (by decide), list_app (k := 2) (name_app (k := 2) rfl rfl) rfl]; simp only []; rw [want_app (k := 3) rfl]; simp only []; rw [list_app (k := 4) ea rfl]
/- where -/
abbrev us_where (a0 a1 a2 a3 a4 : Int) : List Tp := [⟨4, [124], 0, a0⟩, ⟨1, [119, 104, 101, 114, 101], 0, a1⟩, ⟨1, [100], 0, a2⟩, ⟨4, [61], 0, a3⟩, ⟨2, [], 1, a4⟩]
theorem test_where (a0 a1 a2 a3 a4 : Int) : testS (ts ++ us_where a0 a1 a2 a3 a4) (ts.length + 2) = .ok { n0 with kind := 14, s := [100], n := 1, vk := 1, vn := 1 } (ts.length + 5) := by
  have ev : valueS (ts ++ us_where a0 a1 a2 a3 a4) (ts.length + 4) = .ok (1, 1, []) (ts.length + 5) := by unfold valueS; rw [isK_app (us := us_where a0 a1 a2 a3 a4) 4 2, show isK (us_where a0 a1 a2 a3 a4) 4 2 = true from rfl, if_pos rfl, num_app (k := 4) rfl rfl]; rfl
  unfold testS; rw [name_app (k := 2) rfl rfl]; simp only [Rs.and]; rw [isW_app (us := us_where a0 a1 a2 a3 a4) 3 wHas, show isW (us_where a0 a1 a2 a3 a4) 3 wHas = false from rfl, if_neg (by decide), one_app (k := 3) (m := 0) rfl]; simp only []; rw [ev]; rfl
theorem cond_where (a0 a1 a2 a3 a4 : Int) (d : Nat) (A : List Np) : condS (ts ++ us_where a0 a1 a2 a3 a4) d (ts.length + 2) A = .ok (A.length, A ++ [{ n0 with kind := 14, s := [100], n := 1, vk := 1, vn := 1 }]) (ts.length + 5) := by
  have en : ∀ o, notB (ts ++ us_where a0 a1 a2 a3 a4) o (ts.length + 2) A = .ok (A.length, A ++ [{ n0 with kind := 14, s := [100], n := 1, vk := 1, vn := 1 }]) (ts.length + 5) := by
    intro o
    unfold notB; rw [isW_app (us := us_where a0 a1 a2 a3 a4) 2 wNot, show isW (us_where a0 a1 a2 a3 a4) 2 wNot = false from rfl, if_neg (by decide), isW_app (us := us_where a0 a1 a2 a3 a4) 2 wOpen, show isW (us_where a0 a1 a2 a3 a4) 2 wOpen = false from rfl, if_neg (by decide), test_where]; rfl
  have en2 : notS (ts ++ us_where a0 a1 a2 a3 a4) d (ts.length + 2) A = .ok (A.length, A ++ [{ n0 with kind := 14, s := [100], n := 1, vk := 1, vn := 1 }]) (ts.length + 5) := by
    cases d <;> exact en _
  unfold condS condB bothB chainS; rw [en2]; simp only [Rs.and]; rw [chain_end (us := us_where a0 a1 a2 a3 a4) (k := 5) rfl]; simp only []; rw [chain_end (us := us_where a0 a1 a2 a3 a4) (k := 5) rfl]
theorem step_where (a0 a1 a2 a3 a4 : Int) (d : Nat) (a : Nat) (A : List Np) : stepB (ts ++ us_where a0 a1 a2 a3 a4) (condS (ts ++ us_where a0 a1 a2 a3 a4) d) (some (queryS (ts ++ us_where a0 a1 a2 a3 a4) 15)) a (ts.length + 1) A = .ok ({ n0 with kind := 2, l := [(a : Int), (A.length : Int)] }, A ++ [{ n0 with kind := 14, s := [100], n := 1, vk := 1, vn := 1 }]) (ts.length + 5) := by
  unfold stepB; rw [one_app (k := 1) (m := 0) rfl]; simp only [Rs.and]; rw [cond_where]
/- union -/
abbrev us_union (a0 a1 a2 a3 a4 a5 : Int) : List Tp := [⟨4, [124], 0, a0⟩, ⟨1, [117, 110, 105, 111, 110], 0, a1⟩, ⟨4, [40], 0, a2⟩, ⟨1, [102, 101, 116, 99, 104], 0, a3⟩, ⟨1, [101], 0, a4⟩, ⟨4, [41], 0, a5⟩]
theorem fetch_union (a0 a1 a2 a3 a4 a5 : Int) : fetchS (ts ++ us_union a0 a1 a2 a3 a4 a5) (ts.length + 3) = .ok { n0 with kind := 1, s := [101], to_ := 1099511627775 } (ts.length + 5) := by
  unfold fetchS; rw [want_app (k := 3) rfl]; simp only [Rs.and]; rw [name_app (k := 4) rfl rfl]; simp only []; rw [isW_app (us := us_union a0 a1 a2 a3 a4 a5) 5 wFrom, show isW (us_union a0 a1 a2 a3 a4 a5) 5 wFrom = false from rfl, if_neg (by decide)]
theorem query_union (a0 a1 a2 a3 a4 a5 : Int) (d : Nat) (A : List Np) : queryS (ts ++ us_union a0 a1 a2 a3 a4 a5) d (ts.length + 3) A = .ok (A.length, A ++ [{ n0 with kind := 1, s := [101], to_ := 1099511627775 }]) (ts.length + 5) := by
  have eq : ∀ c o, queryB (ts ++ us_union a0 a1 a2 a3 a4 a5) c o (ts.length + 3) A = .ok (A.length, A ++ [{ n0 with kind := 1, s := [101], to_ := 1099511627775 }]) (ts.length + 5) := by
    intro c o
    unfold queryB; rw [fetch_union]; simp only [Rs.and]; rw [steps_end (us := us_union a0 a1 a2 a3 a4 a5) (k := 5) rfl]
  cases d <;> exact eq _ _
theorem step_union (a0 a1 a2 a3 a4 a5 : Int) (d : Nat) (a : Nat) (A : List Np) : stepB (ts ++ us_union a0 a1 a2 a3 a4 a5) (condS (ts ++ us_union a0 a1 a2 a3 a4 a5) 16) (some (queryS (ts ++ us_union a0 a1 a2 a3 a4 a5) d)) a (ts.length + 1) A = .ok ({ n0 with kind := 8, l := [(a : Int), (A.length : Int)] }, A ++ [{ n0 with kind := 1, s := [101], to_ := 1099511627775 }]) (ts.length + 6) := by
  unfold stepB; rw [one_app (k := 1) (m := 6) rfl]; simp only [Rs.and]; unfold inBr; rw [isW_app (us := us_union a0 a1 a2 a3 a4 a5) 2 wOpen, show isW (us_union a0 a1 a2 a3 a4 a5) 2 wOpen = true from rfl, if_pos rfl]; simp only []; rw [query_union]; simp only [Rs.and]; rw [want_app (k := 5) rfl]
end
end Go.Proofs.Ytjekpclbedbaoaa
namespace Go.Proofs.Ytjekpclbedbaoaa
open Go.RowKit Go.Joins

structure Kp (T : Nat → Prop) (w w' : World) : Prop where
  os : w'.os = w.os
  tape : w'.tape = w.tape
  output : w'.output = w.output
  size : w.heap.size ≤ w'.heap.size
  block : ∀ k, k < w.heap.size → ¬ T k → w'.heap[k]? = w.heap[k]?
theorem Kp.refl (T : Nat → Prop) (w : World) : Kp T w w := ⟨rfl, rfl, rfl, Nat.le_refl _, fun _ _ _ => rfl⟩
theorem Kp.of {T : Nat → Prop} {w w' : World} (h : Below w.heap.size w w') : Kp T w w' := ⟨h.os, h.tape, h.output, h.size, fun k hk _ => h.block k hk⟩
theorem Kp.below {T : Nat → Prop} {w w' : World} {B : Nat} (h : Kp T w w') (hB : B ≤ w.heap.size) (hT : ∀ k, T k → B ≤ k) : Below B w w' :=
  ⟨h.os, h.tape, h.output, h.size, fun k hk => h.block k (Nat.lt_of_lt_of_le hk hB) (fun t => by have := hT k t; omega)⟩
theorem Kp.trans {T : Nat → Prop} {a b c : World} (h : Kp T a b) (k : Kp T b c) : Kp T a c :=
  ⟨k.os.trans h.os, k.tape.trans h.tape, k.output.trans h.output, Nat.le_trans h.size k.size, fun i hi ht => (k.block i (Nat.lt_of_lt_of_le hi h.size) ht).trans (h.block i hi ht)⟩
theorem Kp.trans' {T T' : Nat → Prop} {a b c : World} (h : Kp T a b) (k : Kp T' b c) (ht : ∀ i, i < a.heap.size → T' i → T i) : Kp T a c :=
  ⟨k.os.trans h.os, k.tape.trans h.tape, k.output.trans h.output, Nat.le_trans h.size k.size, fun i hi hn => (k.block i (Nat.lt_of_lt_of_le hi h.size) (fun x => hn (ht i hi x))).trans (h.block i hi hn)⟩
theorem Kp.imp {T T' : Nat → Prop} {a b : World} (h : Kp T a b) (ht : ∀ i, i < a.heap.size → T i → T' i) : Kp T' a b :=
  ⟨h.os, h.tape, h.output, h.size, fun i hi hn => h.block i hi (fun x => hn (ht i hi x))⟩
theorem Kp.grown {T : Nat → Prop} {w w' : World} {row : Option Nat} (hg : w.grownBy w' row) (hr : ∀ k, row = some k → T k) : Kp T w w' :=
  ⟨hg.os, hg.tape, hg.output, hg.size, fun k hk ht => hg.block k hk (fun e => ht (hr k e.symm))⟩
theorem Kp.set {T : Nat → Prop} {w : World} {b i : Nat} (hT : T b) (u : Value) : Kp T w (w.setCell ⟨b, i, none⟩ u) :=
  ⟨rfl, rfl, rfl, by simp [World.setCell], fun k _ ht => Below.heap_setCell _ _ _ _ (fun e => ht (by rw [e]; exact hT))⟩
theorem Kp.alloc (T : Nat → Prop) (w : World) (o : Obj) : Kp T w (w.alloc o) := Kp.of ((Below.refl _ _).alloc (Nat.le_refl _) o)
theorem Kp.drew (T : Nat → Prop) (w : World) : Kp T w w.drew := Kp.of (Below.refl _ _).drew
theorem Kp.blk {T : Nat → Prop} {w w' : World} {k : Nat} {o : Obj} (h : Kp T w w') (hk : w.heap[k]? = some o) (ht : ¬ T k) : w'.heap[k]? = some o := (h.block k (lt_of_block hk) ht).trans hk
theorem Kp.cell {T : Nat → Prop} {w w' : World} {k o : Nat} {v : Value} (h : Kp T w w') (hk : w.cell? ⟨k, o, none⟩ = some v) (ht : ¬ T k) : w'.cell? ⟨k, o, none⟩ = some v :=
  (World.cell?_of_block (a := ⟨k, o, none⟩) (h.block k (block_lt_of_cell hk) ht)).trans hk
abbrev dp (b : Nat) : Value := .pointer (some ⟨b, 0, none⟩)
def CellsAt (w : World) (b o : Nat) (xs : List Value) : Prop := ∀ (j : Nat) u, xs[j]? = some u → w.cell? ⟨b, o + j, none⟩ = some u
def SlAt {α : Type} (Q : Nat → Prop) (enc : α → List Value) (k : Nat) (w : World) (v : Value) (xs : List α) : Prop :=
  ∃ (p : Option Addr) (cap : Nat), v = .slice p xs.length cap ∧ (xs.length ≤ cap ∧ cap ≤ maxLen) ∧ (xs ≠ [] → ∃ b o, p = some ⟨b, o, none⟩ ∧ Q b ∧ ∀ (j : Nat) x, xs[j]? = some x → CellsAt w b (o + j * k) (enc x))
theorem CellsAt.kp {T : Nat → Prop} {w w' : World} {b o : Nat} {xs : List Value} (h : CellsAt w b o xs) (hk : Kp T w w') (ht : ¬ T b) : CellsAt w' b o xs := fun j u hj => hk.cell (h j u hj) ht
theorem SlAt.kp {α : Type} {Q T : Nat → Prop} {enc : α → List Value} {k : Nat} {w w' : World} {v : Value} {xs : List α} (h : SlAt Q enc k w v xs) (hk : Kp T w w') (ht : ∀ b, Q b → ¬ T b) : SlAt Q enc k w' v xs := by
  obtain ⟨p, cap, hv, hc, hx⟩ := h
  exact ⟨p, cap, hv, hc, fun hne => let ⟨b, o, hp, hQ, hj⟩ := hx hne; ⟨b, o, hp, hQ, fun j x hjx => (hj j x hjx).kp hk (ht b hQ)⟩⟩
theorem SlAt.on {α : Type} {Q : Nat → Prop} {enc : α → List Value} {k : Nat} {w w' : World} {v : Value} {xs : List α} (h : SlAt Q enc k w v xs) (hb : Below w.heap.size w w') : SlAt Q enc k w' v xs := h.kp (T := fun _ => False) (Kp.of hb) (fun _ _ => id)
theorem SlAt.imp {α : Type} {Q Q' : Nat → Prop} {enc : α → List Value} {k : Nat} {w : World} {v : Value} {xs : List α} (h : SlAt Q enc k w v xs) (hq : ∀ b, Q b → Q' b) : SlAt Q' enc k w v xs := by
  obtain ⟨p, cap, hv, hc, hx⟩ := h
  exact ⟨p, cap, hv, hc, fun hne => let ⟨b, o, hp, hQ, hj⟩ := hx hne; ⟨b, o, hp, hq b hQ, hj⟩⟩
theorem SlAt.form {α : Type} {Q : Nat → Prop} {enc : α → List Value} {k : Nat} {w : World} {v : Value} {xs : List α} (h : SlAt Q enc k w v xs) : ∃ p cap, v = .slice p xs.length cap ∧ xs.length ≤ cap ∧ cap ≤ maxLen := let ⟨p, cap, hv, hc, _⟩ := h; ⟨p, cap, hv, hc.1, hc.2⟩
theorem SlAt.at {α : Type} {Q : Nat → Prop} {enc : α → List Value} {k : Nat} {w : World} {p : Option Addr} {n cap : Nat} {xs : List α} (h : SlAt Q enc k w (.slice p n cap) xs) {j : Nat} {x : α} (hj : xs[j]? = some x) : ∃ b o, p = some ⟨b, o, none⟩ ∧ Q b ∧ CellsAt w b (o + j * k) (enc x) := by
  obtain ⟨p', cap', hv, _, hx⟩ := h
  cases hv
  obtain ⟨b, o, hp, hQ, hc⟩ := hx (by intro e; subst e; simp at hj)
  exact ⟨b, o, hp, hQ, hc j x hj⟩
section
variable {α : Type} {enc : α → List Value} {k : Nat}
theorem flat_get (hk : ∀ x, (enc x).length = k) : ∀ (xs : List α) (j : Nat) x, xs[j]? = some x → ∀ (i : Nat) u, (enc x)[i]? = some u → (xs.flatMap enc)[j * k + i]? = some u
  | [], _, _, h, _, _, _ => by simp at h
  | y :: ys, 0, x, h, i, u, hi => by
    simp at h; subst h
    rw [List.flatMap_cons, Nat.zero_mul, Nat.zero_add, List.getElem?_append_left (by exact (List.getElem?_eq_some_iff.1 hi).1)]
    exact hi
  | y :: ys, j + 1, x, h, i, u, hi => by
    have ih := flat_get hk ys j x (by simpa using h) i u hi
    have e : (j + 1) * k + i = k + (j * k + i) := by rw [Nat.succ_mul]; omega
    rw [List.flatMap_cons, List.getElem?_append_right (by rw [hk]; omega), hk, e, Nat.add_sub_cancel_left]
    exact ih
theorem flat_cells (hk : ∀ x, (enc x).length = k) {w : World} {b : Nat} : ∀ (xs : List α) (o : Nat), (∀ (j : Nat) x, xs[j]? = some x → CellsAt w b (o + j * k) (enc x)) → CellsAt w b o (xs.flatMap enc)
  | [], _, _ => fun j u h => by simp at h
  | y :: ys, o, h => fun j u hj => by
    rw [List.flatMap_cons] at hj
    by_cases hlt : j < k
    · rw [List.getElem?_append_left (by rw [hk]; exact hlt)] at hj
      have := h 0 y rfl j u hj
      rwa [Nat.zero_mul, Nat.add_zero] at this
    · rw [List.getElem?_append_right (by rw [hk]; omega), hk] at hj
      have ih := flat_cells hk ys (o + k) (fun i x hx => by
        have := h (i + 1) x (by simpa using hx)
        have e : o + (i + 1) * k = o + k + i * k := by rw [Nat.succ_mul]; omega
        rwa [e] at this) (j - k) u hj
      have e : o + k + (j - k) = o + j := by omega
      rwa [e] at ih
theorem flat_length (hk : ∀ x, (enc x).length = k) (xs : List α) : (xs.flatMap enc).length = xs.length * k := by
  induction xs with
  | nil => simp
  | cons y ys ih => rw [List.flatMap_cons, List.length_append, hk, ih, List.length_cons, Nat.succ_mul]; omega
end
def Own {α : Type} (enc : α → List Value) (k e : Nat) (B : Nat) (w : World) (v : Value) (xs : List α) : Prop := w.ownsRow B e k v xs.length (xs.flatMap enc)
def ElemN (t e k N : Nat) : Prop := Try.prog.underlying t = some (.slice e) ∧ 0 < k ∧ ∃ i z, Try.prog.info? e = some i ∧ i.zero = some z ∧ i.size = k ∧ i.bytes ≤ N ∧ z.cells.size = k
theorem Own.sl {α : Type} {enc : α → List Value} {k e B : Nat} {w : World} {v : Value} {xs : List α} (h : Own enc k e B w v xs) (hk : ∀ x, (enc x).length = k) : SlAt (fun b => B ≤ b ∧ b < w.heap.size) enc k w v xs := by
  rcases h.2 with ⟨hv, h0⟩ | ⟨g, cap, cur, hv, hg, hblk, hc, hm, q⟩
  · have hn : xs = [] := List.eq_nil_of_length_eq_zero h0
    subst hn
    exact ⟨none, 0, hv, ⟨by simp, by unfold maxLen; omega⟩, fun hne => absurd rfl hne⟩
  · refine ⟨some ⟨g, 0, none⟩, cap, hv, ⟨hc, hm⟩, fun _ => ⟨g, 0, rfl, ⟨hg, lt_of_block hblk⟩, fun j x hx i u hi => ?_⟩⟩
    have := World.ownsRow.cells h (g := g) (by rw [hv]; rfl) (j * k + i) u (flat_get hk xs j x hx i u hi)
    rw [Addr.add_lit, Nat.zero_add] at this
    rw [Nat.zero_add]
    exact this
theorem Own.nil {α : Type} (enc : α → List Value) (k e B : Nat) (w : World) : Own enc k e B w (.slice none 0 0) ([] : List α) := World.ownsRow_nil w B e k
theorem Own.blk {α : Type} {enc : α → List Value} {k e B : Nat} {w : World} {g : Nat} {xs : List α} (hk : ∀ x, (enc x).length = k) (hg : B ≤ g) (h : w.heap[g]? = some (.cells (xs.flatMap enc).toArray e (0, 0))) (hm : xs.length ≤ maxLen) : Own enc k e B w (.slice (some ⟨g, 0, none⟩) xs.length xs.length) xs := by
  refine ⟨flat_length hk xs, .inr ⟨g, xs.length, _, rfl, hg, h, Nat.le_refl _, hm, ?_, ?_⟩⟩
  · simp only [List.size_toArray]; exact flat_length hk xs
  · show (xs.flatMap enc).take (xs.length * k) = _
    rw [← flat_length hk xs]; exact List.take_length
theorem Own.kp {α : Type} {enc : α → List Value} {k e B : Nat} {T : Nat → Prop} {w w' : World} {v : Value} {xs : List α} (h : Own enc k e B w v xs) (hk : Kp T w w') (ht : ∀ g, v.ownBlock = some g → ¬ T g) : Own enc k e B w' v xs := by
  refine ⟨h.1, ?_⟩
  rcases h.2 with h0 | ⟨g, cap, cur, hv, hg, hblk, hc⟩
  · exact .inl h0
  · exact .inr ⟨g, cap, cur, hv, hg, hk.blk hblk (ht g (by rw [hv]; rfl)), hc⟩
theorem Own.on {α : Type} {enc : α → List Value} {k e B : Nat} {w w' : World} {v : Value} {xs : List α} (h : Own enc k e B w v xs) (hb : Below w.heap.size w w') : Own enc k e B w' v xs := h.kp (T := fun _ => False) (Kp.of hb) (fun _ _ => id)
theorem Own.at {α : Type} {enc : α → List Value} {k e B : Nat} {w : World} {v : Value} {xs : List α} (h : Own enc k e B w v xs) {g : Nat} (hg : v.ownBlock = some g) : B ≤ g ∧ g < w.heap.size := World.ownsRow.lt h g hg
theorem Own.kind {α : Type} {enc : α → List Value} {k e B : Nat} {w : World} {v : Value} {xs : List α} (h : Own enc k e B w v xs) {g : Nat} (hg : v.ownBlock = some g) : ∃ c fz, w.heap[g]? = some (.cells c e fz) := Lib.ownsRow_kind h g hg
theorem Own.form {α : Type} {enc : α → List Value} {k e B : Nat} {w : World} {v : Value} {xs : List α} (h : Own enc k e B w v xs) : ∃ p c, v = .slice p xs.length c := by
  rcases h.2 with ⟨hv, h0⟩ | ⟨g, cap, cur, hv, hg, hblk, q⟩
  · exact ⟨none, 0, by rw [hv, h0]⟩
  · exact ⟨_, cap, hv⟩
theorem Own.le {α : Type} {enc : α → List Value} {k e B B' : Nat} {w : World} {v : Value} {xs : List α} (h : Own enc k e B w v xs) (hb : B' ≤ B) : Own enc k e B' w v xs := by
  refine ⟨h.1, ?_⟩
  rcases h.2 with h0 | ⟨g, cap, cur, hv, hg, hblk, hc⟩
  · exact .inl h0
  · exact .inr ⟨g, cap, cur, hv, Nat.le_trans hb hg, hblk, hc⟩
theorem app_N {ops : Array Oper} {rest : List Oper} {o : Oper} {a : Act} {Q : Exit → Act → World → Prop} {w : World} {α : Type} {enc : α → List Value} {k e t B N : Nat} {Qb : Nat → Prop} {xs ys : List α} {v u : Value}
    (hE : ElemN t e k N) (hk : ∀ x, (enc x).length = k) (h1 : ∀ y ∈ ys, ∀ c ∈ enc y, c.oneCell' = true) (hgd : o.guard = none) (s x : Operand) (ho : o.op = .call { callee := .builtin .append, args := #[s, x], argTypes := #[t, t] })
    (hs : a.eval s = v) (hown : Own enc k e B w v xs) (hx : a.eval x = u) (hu : SlAt Qb enc k w u ys) (hne : ys ≠ []) (hb : (xs.length + ys.length) * N ≤ 140737488355328) (hN : 1 ≤ N) (hB : B ≤ w.heap.size)
    (h : ∀ v' w', Own enc k e B w' v' (xs ++ ys) → w.grownBy w' v.ownBlock → wpList Try.prog ops Q rest (a.put o.dst v') w') : wpList Try.prog ops Q (o :: rest) a w := by
  refine wpList_plain hgd fun K hK => ?_
  obtain ⟨ht, hkp, i0, z, hi, hz0, hz1, hz2, hzs⟩ := hE
  obtain ⟨p, cap, rfl, ⟨hcap, hmax⟩, hy⟩ := hu
  obtain ⟨b, o', rfl, _, hcell⟩ := hy hne
  refine wp_append_own w s x t ho B e i0 z k i0.bytes ht hi hz0 hz1 rfl hzs hkp v xs.length _ hs hown ⟨b, o', none⟩ ys.length cap (ys.flatMap enc) hx (flat_length hk ys) ?_ ?_ ?_ (Nat.le_trans (Nat.mul_le_mul_left _ hz2) hb) hB ?_
  · intro j c hj
    rw [Addr.add_lit]
    exact flat_cells hk ys o' hcell j c hj
  · intro c hc
    obtain ⟨y, hy', hcy⟩ := List.mem_flatMap.1 hc
    exact h1 y hy' c hcy
  · have : (xs.length + ys.length) * 1 ≤ (xs.length + ys.length) * N := Nat.mul_le_mul_left _ hN
    unfold maxLen; omega
  · intro v' w' h2 h3 h4
    refine hK _ _ (h v' w' ?_ h3)
    show w'.ownsRow B e k v' (xs ++ ys).length ((xs ++ ys).flatMap enc)
    rw [List.length_append, List.flatMap_append]; exact h2
def At (w : World) (v v' : Value) : Prop := ∀ k, v'.ownBlock = some k → v.ownBlock = some k ∨ w.heap.size ≤ k
theorem At.refl (w : World) (v : Value) : At w v v := fun _ h => .inl h
theorem append_at {P : Program} (w : World) (base : Nat) (t ty e : TypeId) (i : TypeInfo) (z : Value) (size bytes : Nat) (ht : P.underlying t = some (.slice e)) (hi : P.info? e = some i) (hz : i.zero = some z)
    (hsize : i.size = size) (hby : i.bytes = bytes) (hzs : z.cells.size = size) (hsz : 0 < size)
    (v : Value) (n : Nat) (xs : List Value) (hown : w.ownsRow base e size v n xs)
    (a : Addr) (m c : Nat) (news : List Value) (hl : news.length = m * size) (hnews : ∀ j u, news[j]? = some u → w.cell? (a.add j) = some u) (h1 : ∀ u ∈ news, u.oneCell' = true)
    (h63 : n + m ≤ maxLen) (hbytes : (n + m) * bytes ≤ 140737488355328) {v' : Value} {w' : World} (hr : (Builtin.append_ #[t, t] ty #[v, .slice (some a) m c]).run P w = .ok v' w') : At w v v' := by
  intro k hk
  have hsmall : n + m ≤ 9223372036854775807 := by simp only [maxLen] at h63; omega
  rcases hown.2 with ⟨rfl, rfl⟩ | ⟨g, cap, cur, rfl, hbg, hg, hnc, hcm, hcs, htake⟩
  · have hx : xs = [] := List.eq_nil_of_length_eq_zero (by simpa using hown.1)
    subst hx
    obtain ⟨v2, w2, hr2, ho2, -, -⟩ := run_append_own (P := P) w w.heap.size t ty e i z size bytes ht hi hz hsize hby hzs hsz _ 0 [] (World.ownsRow_nil w w.heap.size e size) a m c news hl hnews h1 h63 hbytes (Nat.le_refl _)
    rw [hr] at hr2
    cases hr2
    exact .inr (World.ownsRow.lt ho2 k hk).1
  · subst hsize
    by_cases hroom : n + m ≤ cap
    · have hfit : n * i.size + news.length ≤ cur.size := by rw [hl, hcs, ← Nat.add_mul]; exact Nat.mul_le_mul_right _ hroom
      have hr2 := run_append_room (P := P) w t ty e i ht hi g n cap cur hg a m c news hl hnews h1 hroom hfit
      rw [hr] at hr2
      cases hr2
      exact .inl hk
    · have holds : ∀ j u, xs[j]? = some u → w.cell? ((⟨g, 0, none⟩ : Addr).add j) = some u := World.ownsRow.cells hown (g := g) rfl
      have hr2 := run_append_grow (P := P) w t ty e i z ht hi hz ⟨g, 0, none⟩ n cap xs hown.1 holds a m c news hl hnews (by omega) (by omega) (growslice_fits (by omega) (by rw [hby]; exact hbytes))
      rw [hr] at hr2
      cases hr2
      cases hk
      exact .inr (Nat.le_refl _)
theorem step_appP {ops : Array Oper} {o : Oper} {a : Act} {w : World} {K : Act → World → Prop} {Q : Exit → Act → World → Prop} {E : Prop} {α : Type} {enc : α → List Value} {k e t B N : Nat} {Qb : Nat → Prop} {xs ys : List α} {v u : Value}
    (hE : ElemN t e k N) (hk : ∀ x, (enc x).length = k) (h1 : ∀ y ∈ ys, ∀ c ∈ enc y, c.oneCell' = true) (hgd : o.guard = none) (s x : Operand) (ho : o.op = .call { callee := .builtin .append, args := #[s, x], argTypes := #[t, t] })
    (hs : a.eval s = v) (hx : a.eval x = u) (hown : Own enc k e B w v xs) (hu : SlAt Qb enc k w u ys) (hne : ys ≠ []) (hb : (xs.length + ys.length) * N ≤ 140737488355328) (hN : 1 ≤ N) (hB : B ≤ w.heap.size)
    (h : ∀ v' w', Own enc k e B w' v' (xs ++ ys) → w.grownBy w' v.ownBlock → At w v v' → K (a.put o.dst v') w') : if Region.wanted o (yielded ops a.tmps) = true then Oper.wp Try.prog o a w K Q else E := by
  have hw : Region.wanted o (yielded ops a.tmps) = true := by simp [Region.wanted, hgd]
  rw [if_pos hw]
  obtain ⟨ht, hkp, i0, z, hi, hz0, hz1, hz2, hzs⟩ := hE
  obtain ⟨p, cap, rfl, ⟨hcap, hmax⟩, hy⟩ := hu
  obtain ⟨b, o', rfl, _, hcell⟩ := hy hne
  have hnews : ∀ (j : Nat) c, (ys.flatMap enc)[j]? = some c → w.cell? ((⟨b, o', none⟩ : Addr).add j) = some c := by
    intro j c hj
    rw [Addr.add_lit]
    exact flat_cells hk ys o' hcell j c hj
  have h1' : ∀ c ∈ ys.flatMap enc, c.oneCell' = true := by
    intro c hc
    obtain ⟨y, hy', hcy⟩ := List.mem_flatMap.1 hc
    exact h1 y hy' c hcy
  have h63 : xs.length + ys.length ≤ maxLen := by
    have : (xs.length + ys.length) * 1 ≤ (xs.length + ys.length) * N := Nat.mul_le_mul_left _ hN
    unfold maxLen; omega
  have hby : (xs.length + ys.length) * i0.bytes ≤ 140737488355328 := Nat.le_trans (Nat.mul_le_mul_left _ hz2) hb
  obtain ⟨v', w', hr, h2, h3, h4⟩ := run_append_own (P := Try.prog) w B t o.type e i0 z k i0.bytes ht hi hz0 hz1 rfl hzs hkp v xs.length _ hown ⟨b, o', none⟩ ys.length cap (ys.flatMap enc) (flat_length hk ys) hnews h1' h63 hby hB
  have h5 := append_at (P := Try.prog) w B t o.type e i0 z k i0.bytes ht hi hz0 hz1 rfl hzs hkp v xs.length _ hown ⟨b, o', none⟩ ys.length cap (ys.flatMap enc) (flat_length hk ys) hnews h1' h63 hby hr
  unfold Oper.wp execOp
  simp only [ho, resolve, invoke, builtin, Sem.run_bind, Sem.run_pure, Result.andThen_ok, List.map_toArray, List.map_cons, List.map_nil, hs, hx, hr]
  refine h v' w' ?_ h3 h5
  show w'.ownsRow B e k v' (xs ++ ys).length ((xs ++ ys).flatMap enc)
  rw [List.length_append, List.flatMap_append]; exact h2
theorem wpList_store_row {ops : Array Oper} {rest : List Oper} {o : Oper} {a : Act} {w : World} {Q : Exit → Act → World → Prop} (hgd : o.guard = none) (ty : TypeId) (x y : Operand) (ho : o.op = .store ty x y)
    {g : Nat} {cells : Array Value} (hx : a.eval x = .pointer (some ⟨g, 0, none⟩)) (hy : a.eval y = .agg cells)
    {t : TypeId} {old : Array Value} (hg : w.heap[g]? = some (.cells old t (0, 0))) (hi : (Try.prog.info? ty).map (·.size) = some cells.size)
    (hold : old.size = cells.size) (h1 : cells.all (·.oneCell') = true)
    (h : ∀ w', w'.heap[g]? = some (.cells cells t (0, 0)) → Kp (fun k => k = g) w w' → w'.heap.size = w.heap.size → wpList Try.prog ops Q rest (a.put o.dst undef) w') : wpList Try.prog ops Q (o :: rest) a w :=
  wpList_plain hgd fun _ hK => wp_store_row ty x y ho g cells hx hy t old hg hi hold h1 (hK _ _ (h _ (setRow_heap w g old _ t _ hg) ⟨rfl, rfl, rfl, by simp, fun k _ hk => setRow_other w g k _ hk⟩ (by simp)))
abbrev int1 (x : Int) : List Value := [.int .i64 x]
abbrev str1 (x : List UInt8) : List Value := [.string (St x)]
abbrev ag2 (x : Int × List UInt8) : List Value := [.int .i64 x.1, .string (St x.2)]
/- A token's cells; a node's, with the values of its three rows. -/
def Tp.cells (t : Tp) : List Value := [.int .i64 t.kind, .string (St t.s), .int .i64 t.n, .int .i64 t.at_]
abbrev TkV (t : Tp) : Value := .agg #[.int .i64 t.kind, .string (St t.s), .int .i64 t.n, .int .i64 t.at_]
structure Nd where
  np : Np
  lv : Value
  nv : Value
  gv : Value
def Nd.cells (q : Nd) : List Value := [.int .i64 q.np.kind, .string (St q.np.s), .int .i64 q.np.n, .int .i64 q.np.from_, .int .i64 q.np.to_, .int .i64 q.np.vk, .int .i64 q.np.vn, .string (St q.np.vs), .int .i64 0, .int .i64 0, .int .i64 0, .int .i64 0, .int .i64 0, .int .i64 0, .int .i64 0, .int .i64 0, q.lv, q.nv, q.gv]
abbrev NdV (n : Np) (l v g : Value) : Array Value := #[.int .i64 n.kind, .string (St n.s), .int .i64 n.n, .int .i64 n.from_, .int .i64 n.to_, .int .i64 n.vk, .int .i64 n.vn, .string (St n.vs), .int .i64 0, .int .i64 0, .int .i64 0, .int .i64 0, .int .i64 0, .int .i64 0, .int .i64 0, .int .i64 0, l, v, g]
theorem nd_len (q : Nd) : q.cells.length = 19 := rfl
theorem tp_len (t : Tp) : t.cells.length = 4 := rfl
theorem info_node : (Try.prog.info? 44).map (fun i => (i.zero, i.size, i.bytes)) = some (some (.agg (NdV n0 (.slice none 0 0) (.slice none 0 0) (.slice none 0 0))), 19, 216) := by kernel_rfl
theorem elem_node : ElemN 32 44 19 216 := by
  obtain ⟨i, hi, h0, h1, h2⟩ := info_parts info_node
  exact ⟨Try.underlying32, by omega, i, _, hi, h0, h1, Nat.le_of_eq h2, rfl⟩
theorem info_str : (Try.prog.info? 9).map (fun i => (i.zero, i.size, i.bytes)) = some (some (.string ⟨#[]⟩), 1, 16) := by kernel_rfl
theorem elem_str : ElemN 41 9 1 16 := by
  obtain ⟨i, hi, h0, h1, h2⟩ := info_parts info_str
  exact ⟨Try.underlying41, by omega, i, _, hi, h0, h1, Nat.le_of_eq h2, rfl⟩
theorem info_int : (Try.prog.info? 3).map (fun i => (i.zero, i.size, i.bytes)) = some (some (.int .i64 0), 1, 8) := by kernel_rfl
theorem elem_int : ElemN 37 3 1 8 := by
  obtain ⟨i, hi, h0, h1, h2⟩ := info_parts info_int
  exact ⟨Try.underlying37, by omega, i, _, hi, h0, h1, Nat.le_of_eq h2, rfl⟩
theorem info_agg : (Try.prog.info? 184).map (fun i => (i.zero, i.size, i.bytes)) = some (some (.agg #[.int .i64 0, .string ⟨#[]⟩]), 2, 24) := by kernel_rfl
theorem elem_agg : ElemN 42 184 2 24 := by
  obtain ⟨i, hi, h0, h1, h2⟩ := info_parts info_agg
  exact ⟨Try.underlying42, by omega, i, _, hi, h0, h1, Nat.le_of_eq h2, rfl⟩
theorem size_node : (Try.prog.info? 44).map (·.size) = some 19 := by kernel_rfl
/- The node's rows are of the call's own. -/
structure NdIn (B : Nat) (w : World) (q : Nd) : Prop where
  l : Own int1 1 3 B w q.lv q.np.l
  n : Own str1 1 9 B w q.nv q.np.names
  g : Own ag2 2 184 B w q.gv q.np.aggs
theorem Own.one {α : Type} {enc : α → List Value} {k e B : Nat} {w : World} {v : Value} {xs : List α} (h : Own enc k e B w v xs) : v.oneCell' = true := by
  obtain ⟨p, c, rfl⟩ := h.form; rfl
theorem NdIn.one {B : Nat} {w : World} {q : Nd} (h : NdIn B w q) : ∀ c ∈ q.cells, c.oneCell' = true := by
  intro v hv
  have h1 := h.l.one
  have h2 := h.n.one
  have h3 := h.g.one
  simp [Nd.cells] at hv
  rcases hv with rfl | rfl | rfl | rfl | rfl | rfl | rfl | rfl | rfl | rfl | rfl | rfl | rfl | rfl | rfl | rfl | rfl | rfl | rfl <;> first | rfl | assumption
theorem NdIn.all {B : Nat} {w : World} {q : Nd} (h : NdIn B w q) : q.cells.toArray.all (·.oneCell') = true := all_oneCell_toArray h.one
theorem NdIn.le {B B' : Nat} {w : World} {q : Nd} (h : NdIn B w q) (hb : B' ≤ B) : NdIn B' w q := ⟨h.l.le hb, h.n.le hb, h.g.le hb⟩
/- Blocks that may turn: of the reader's and the nodes' types. -/
def TK (w : World) (T : Nat → Prop) : Prop := ∀ k, T k → ∀ c t fz, w.heap[k]? = some (.cells c t fz) → t ≠ 3 ∧ t ≠ 9 ∧ t ≠ 184
theorem Own.kpk {α : Type} {enc : α → List Value} {k e B : Nat} {T : Nat → Prop} {w w' : World} {v : Value} {xs : List α} (h : Own enc k e B w v xs) (hk : Kp T w w') (ht : ∀ g, T g → ∀ c t fz, w.heap[g]? = some (.cells c t fz) → t ≠ e) : Own enc k e B w' v xs :=
  h.kp hk (fun g hg hT => by obtain ⟨c, fz, hc⟩ := h.kind hg; exact ht g hT _ _ _ hc rfl)
theorem NdIn.kp {B : Nat} {w w' : World} {q : Nd} {T : Nat → Prop} (h : NdIn B w q) (hk : Kp T w w') (ht : TK w T) : NdIn B w' q :=
  ⟨h.l.kpk hk (fun g hT c t fz hc => (ht g hT c t fz hc).1), h.n.kpk hk (fun g hT c t fz hc => (ht g hT c t fz hc).2.1), h.g.kpk hk (fun g hT c t fz hc => (ht g hT c t fz hc).2.2)⟩
theorem TK.no (w : World) : TK w (fun _ => False) := fun _ h => h.elim
theorem NdIn.on {B : Nat} {w w' : World} {q : Nd} (h : NdIn B w q) (hb : Below w.heap.size w w') : NdIn B w' q := h.kp (T := fun _ => False) (Kp.of hb) (TK.no w)
def Tq (rb : Nat) (sv : Value) (k : Nat) : Prop := k = rb ∨ sv.ownBlock = some k
section
variable {B : Nat} {ts : List Tp} {w w' : World} {rb : Nat} {tv sv : Value} {o i : Nat} {qs : List Nd}
end
abbrev dies (v : Value) : Ending := .panicked [{ v := v, recovered := false }]
theorem At.trans {w w1 : World} {a b c : Value} (h : At w a b) (h2 : At w1 b c) (hs : w.heap.size ≤ w1.heap.size) : At w a c := fun k hk => by
  rcases h2 k hk with h3 | h3
  · exact h k h3
  · exact .inr (Nat.le_trans hs h3)
/- One call behind another. -/
theorem Kp.next {rb : Nat} {sv sv' : Value} {w w1 w2 : World} (h : Kp (Tq rb sv) w w1) (ha : At w sv sv') (h2 : Kp (Tq rb sv') w1 w2) : Kp (Tq rb sv) w w2 :=
  h.trans' h2 (fun k hk ht => by
    rcases ht with e | e
    · exact .inl e
    · rcases ha k e with e | e
      · exact .inr e
      · omega)
theorem Kp.r {rb : Nat} {sv : Value} {w w1 : World} (h : Kp (fun k => k = rb) w w1) : Kp (Tq rb sv) w w1 := h.imp (fun _ _ e => .inl e)
end Go.Proofs.Ytjekpclbedbaoaa
namespace Go.Proofs.Ytjekpclbedbaoaa
open Go.RowKit Go.Joins

theorem size_tok : (Try.prog.info? 67).map (·.size) = some 4 := by kernel_rfl
theorem size_val : (Try.prog.info? 40).map (·.size) = some 11 := by kernel_rfl
theorem size_agg : (Try.prog.info? 184).map (·.size) = some 2 := by kernel_rfl
/- A result that lies in a block of its own. -/
theorem ret_tok {fn : Func} {R : Ending → World → Prop} {a : Act} {w : World} {p : Tmp} {g : Nat} {cs : Array Value} (h : fn.results = #[.cell p 67]) (hp : a.tmps.getD p undef = dp g) (hg : w.heap[g]? = some (.cells cs 67 (0, 0))) (hs : cs.size = 4) (hd : a.defers = []) (hR : R (.returned (.agg cs)) w) : bodyPost Try.prog fn R .ret a w :=
  ⟨hd, _, results_cell_row h a.tmps w g 67 cs (0, 0) _ hp hg Try.underlying67 rfl (by rw [hs]; exact size_tok), hR⟩
theorem ret_nd {fn : Func} {R : Ending → World → Prop} {a : Act} {w : World} {p : Tmp} {g : Nat} {cs : Array Value} (h : fn.results = #[.cell p 44]) (hp : a.tmps.getD p undef = dp g) (hg : w.heap[g]? = some (.cells cs 44 (0, 0))) (hs : cs.size = 19) (hd : a.defers = []) (hR : R (.returned (.agg cs)) w) : bodyPost Try.prog fn R .ret a w :=
  ⟨hd, _, results_cell_row h a.tmps w g 44 cs (0, 0) _ hp hg Try.underlying44 rfl (by rw [hs]; exact size_node), hR⟩
theorem ret_val {fn : Func} {R : Ending → World → Prop} {a : Act} {w : World} {p : Tmp} {g : Nat} {cs : Array Value} (h : fn.results = #[.cell p 40]) (hp : a.tmps.getD p undef = dp g) (hg : w.heap[g]? = some (.cells cs 40 (0, 0))) (hs : cs.size = 11) (hd : a.defers = []) (hR : R (.returned (.agg cs)) w) : bodyPost Try.prog fn R .ret a w :=
  ⟨hd, _, results_cell_row h a.tmps w g 40 cs (0, 0) _ hp hg Try.underlying40 rfl (by rw [hs]; exact size_val), hR⟩
theorem ret_ag {fn : Func} {R : Ending → World → Prop} {a : Act} {w : World} {p : Tmp} {g : Nat} {cs : Array Value} (h : fn.results = #[.cell p 184]) (hp : a.tmps.getD p undef = dp g) (hg : w.heap[g]? = some (.cells cs 184 (0, 0))) (hs : cs.size = 2) (hd : a.defers = []) (hR : R (.returned (.agg cs)) w) : bodyPost Try.prog fn R .ret a w :=
  ⟨hd, _, results_cell_row h a.tmps w g 184 cs (0, 0) _ hp hg Try.underlying184 rfl (by rw [hs]; exact size_agg), hR⟩
section
variable {B : Nat} {ts : List Tp} {w : World} {rb : Nat} {tv sv : Value} {o i : Nat} {qs : List Nd}
theorem Kp.new {n : Nat} {w1 w2 : World} (h : Below w1.heap.size w1 w2) : Kp (fun k => n ≤ k) w1 w2 := Kp.of h
theorem Kp.set4 (g n : Nat) (hn : n ≤ g) (w : World) (d0 d1 d2 d3 : Value) : Kp (fun k => n ≤ k) w (set4 w g d0 d1 d2 d3) :=
  (((Kp.set (T := fun k => n ≤ k) hn _).trans (Kp.set (T := fun k => n ≤ k) hn _)).trans (Kp.set (T := fun k => n ≤ k) hn _)).trans (Kp.set (T := fun k => n ≤ k) hn _)
theorem here_lt {ts : List Tp} {i : Nat} (h : i < ts.length) : hereS ts i = ts[i] := by
  unfold hereS; rw [List.getElem?_eq_getElem h]; rfl
theorem here_ge {ts : List Tp} {i : Nat} (h : ¬ i < ts.length) : hereS ts i = ⟨0, [], 0, 0⟩ := by
  unfold hereS; rw [List.getElem?_eq_none (by omega)]; rfl
abbrev zTk : Array Value := #[.int .i64 0, .string ⟨#[]⟩, .int .i64 0, .int .i64 0]
theorem St_dec (x y : List UInt8) : ((St x).toList == (St y).toList) = decide (x = y) := by
  rw [St_eq]
  by_cases h : x = y
  · simp [h]
  · simp [h]
theorem isW_here (ts : List Tp) (i : Nat) (x : List UInt8) : isW ts i x = ((decide ((hereS ts i).kind = 1) || decide ((hereS ts i).kind = 4)) && decide ((hereS ts i).s = x)) := by
  unfold isW hereS
  cases ts[i]? with
  | none => simp
  | some t => simp [Bool.decide_and, Bool.decide_or]
abbrev vNone (_ : World) (_ : Unit) (v : Value) : Prop := v = .tuple #[]
theorem isK_here (ts : List Tp) (i : Nat) (k : Int) (hk : ¬ k = 0) : isK ts i k = decide ((hereS ts i).kind = k) := by
  unfold isK hereS
  cases ts[i]? with
  | none => simp; omega
  | some t => rfl
theorem take_def (ts : List Tp) (k : Int) (i : Nat) : takeS ts k i = if isK ts i k then .ok (hereS ts i) (i + 1) else .bad i 120 := rfl
abbrev vTok (_ : World) (t : Tp) (v : Value) : Prop := v = TkV t
theorem fld0 (t : Tp) (w : World) : (Instr.field 67 (TkV t) 0).run Try.prog w = .ok (.int .i64 t.kind) w := by kernel_rfl
theorem fld1 (t : Tp) (w : World) : (Instr.field 67 (TkV t) 1).run Try.prog w = .ok (.string (St t.s)) w := by kernel_rfl
theorem fld2 (t : Tp) (w : World) : (Instr.field 67 (TkV t) 2).run Try.prog w = .ok (.int .i64 t.n) w := by kernel_rfl
abbrev vStr (_ : World) (s : List UInt8) (v : Value) : Prop := v = .string (St s)
abbrev vInt (_ : World) (n : Int) (v : Value) : Prop := v = .int .i64 n
abbrev vNat (_ : World) (n : Nat) (v : Value) : Prop := v = .int .i64 (n : Int)
abbrev VlV (x : Int × Int × List UInt8) : Array Value := #[.int .i64 x.1, .int .i64 x.2.1, .string (St x.2.2), .int .i64 0, .int .i64 0, .int .i64 0, .int .i64 0, .int .i64 0, .int .i64 0, .int .i64 0, .int .i64 0]
abbrev zVl : Array Value := #[.int .i64 0, .int .i64 0, .string ⟨#[]⟩, .int .i64 0, .int .i64 0, .int .i64 0, .int .i64 0, .int .i64 0, .int .i64 0, .int .i64 0, .int .i64 0]
abbrev vVal (_ : World) (x : Int × Int × List UInt8) (v : Value) : Prop := v = .agg (VlV x)
theorem one_val (x : Int × Int × List UInt8) : (VlV x).all (·.oneCell') = true := by simp [Value.oneCell']
/- A struct is stored into a block that is the call's own. -/
theorem store_val {ops : Array Oper} {rest : List Oper} {op : Oper} {a : Act} {w : World} {Q : Exit → Act → World → Prop} (hgd : op.guard = none) (x y : Operand) (ho : op.op = .store 40 x y) {g : Nat} {c : Int × Int × List UInt8} (hx : a.eval x = dp g) (hy : a.eval y = .agg (VlV c)) {old : Array Value} (hg : w.heap[g]? = some (.cells old 40 (0, 0))) (hs : old.size = 11)
    (h : ∀ w', w'.heap[g]? = some (.cells (VlV c) 40 (0, 0)) → Kp (fun k => k = g) w w' → wpList Try.prog ops Q rest (a.put op.dst undef) w') : wpList Try.prog ops Q (op :: rest) a w :=
  wpList_store_row hgd 40 x y ho hx hy hg size_val (by rw [hs]; rfl) (one_val c) (fun w' h1 h2 _ => h w' h1 h2)
end
end Go.Proofs.Ytjekpclbedbaoaa
