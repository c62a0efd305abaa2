/-
  The program's dictionary and the reference's beside each other: what each call answers of both, and what it leaves.
-/
import Derived.Test.YtnjeocjachmbkaaQXRof
namespace Go.Proofs.Ytnjeocjachmbkaa
open Go.RowKit Go.Sort Go.Maps Go.Shelf

structure Pl (B : Nat) (P : Nat → Prop) (w : World) (b m y : Nat) (most : Int) (F G : List Sm) : Prop where
  d : ∃ sv, Dk B P w b most sv m F
  y : ∃ sv, Ry B P w y most sv G
theorem Pl.on {B : Nat} {P : Nat → Prop} {w w' : World} {b m y : Nat} {most : Int} {F G : List Sm} (h : Pl B P w b m y most F G) (hb : Below w.heap.size w w') : Pl B P w' b m y most F G := by
  obtain ⟨⟨s1, h1⟩, ⟨s2, h2⟩⟩ := h
  exact ⟨⟨s1, h1.on hb⟩, ⟨s2, h2.on hb⟩⟩
theorem Pl.P {B : Nat} {P P' : Nat → Prop} {w : World} {b m y : Nat} {most : Int} {F G : List Sm} (h : Pl B P w b m y most F G) (hp : ∀ k, k < w.heap.size → P k → P' k) : Pl B P' w b m y most F G := by
  obtain ⟨⟨s1, h1⟩, ⟨s2, h2⟩⟩ := h
  exact ⟨⟨s1, h1.P hp⟩, ⟨s2, h2.P hp⟩⟩
theorem pl_find {B : Nat} {P : Nat → Prop} {w : World} {b m y : Nat} {most : Int} {F G : List Sm} {v : Value} {s : Sm} (h : Pl B P w b m y most F G) (hv : RowAt w v s.ks) (hz : Sz s) :
    Calls Try.prog 16 #[dp b, .string s.nm, v] w fun e w' => e = .returned (.tuple #[.int .i64 (findI F s), .bool (memS F s)]) ∧ Below w.heap.size w w' := by
  obtain ⟨⟨s1, h1⟩, -⟩ := h
  exact find_any h1 hv hz.ks hz.nm hz.rng
theorem pl_rfind {B : Nat} {P : Nat → Prop} {w : World} {b m y : Nat} {most : Int} {F G : List Sm} {v : Value} {s : Sm} (h : Pl B P w b m y most F G) (hl : G.length ≤ 1000) (hv : RowAt w v s.ks) :
    Calls Try.prog 17 #[dp y, .string s.nm, v] w fun e w' => e = .returned (.tuple #[.int .i64 (findI G s), .bool (memS G s)]) ∧ Below w.heap.size w w' := by
  obtain ⟨-, ⟨s2, h2⟩⟩ := h
  exact rfind_any h2 hl hv
theorem pl_len {B : Nat} {P : Nat → Prop} {w : World} {b m y : Nat} {most : Int} {F G : List Sm} (h : Pl B P w b m y most F G) :
    Calls Try.prog 19 #[dp b] w fun e w' => e = .returned (.int .i64 F.length) ∧ Below w.heap.size w w' := by
  obtain ⟨⟨s1, h1⟩, -⟩ := h
  refine (len_any h1).mono ?_
  rintro e w' ⟨rfl, rfl⟩
  exact ⟨rfl, Below.refl _ _⟩
theorem pl_of {B : Nat} {P : Nat → Prop} {w : World} {b m y : Nat} {most : Int} {F G : List Sm} {nm : ByteArray} (h : Pl B P w b m y most F G) (hl : F.length ≤ 1000) :
    Calls Try.prog 20 #[dp b, .string nm] w fun e w' => ∃ p c, e = .returned (.slice p (ofL nm 0 F).length c) ∧ IntsAt w' (.slice p (ofL nm 0 F).length c) (ofL nm 0 F) ∧ Below w.heap.size w w' := by
  obtain ⟨⟨s1, h1⟩, -⟩ := h
  exact of_any h1 hl
theorem pl_rof {B : Nat} {P : Nat → Prop} {w : World} {b m y : Nat} {most : Int} {F G : List Sm} {nm : ByteArray} (h : Pl B P w b m y most F G) (hl : G.length ≤ 1000) :
    Calls Try.prog 21 #[dp y, .string nm] w fun e w' => ∃ p c, e = .returned (.slice p (ofL nm 0 G).length c) ∧ IntsAt w' (.slice p (ofL nm 0 G).length c) (ofL nm 0 G) ∧ Below w.heap.size w w' := by
  obtain ⟨-, ⟨s2, h2⟩⟩ := h
  exact rof_any h2 hl
theorem pl_keys {B : Nat} {P : Nat → Prop} {w : World} {b m y : Nat} {most : Int} {F G : List Sm} {i : Int} {s : Sm} {e0 : Bool} (h : Pl B P w b m y most F G) (hl : F.length ≤ 1000) (hf : keyS F i = s ∧ inB F i = e0) :
    Calls Try.prog 22 #[dp b, .int .i64 i] w fun e w' => ∃ p c, e = .returned (.tuple #[.string s.nm, .slice p (List.length s.ks) c, .bool e0]) ∧ RowAt w' (.slice p (List.length s.ks) c) s.ks ∧ Below w.heap.size w w' := by
  obtain ⟨⟨s1, h1⟩, -⟩ := h
  rw [← hf.1, ← hf.2]
  exact keys_any h1 hl
/- The caller's own row. -/
abbrev OwnV (B : Nat) (w : World) (v : Value) (r : Rw) : Prop := Own Vl.cells 11 25 B w v r
theorem ownV_row {B : Nat} {w : World} {v : Value} {r : Rw} (h : OwnV B w v r) (hl : List.length r ≤ 2000000) : RowAt w v r := (Own.sl h vl_len (by unfold bsz; simp; omega)).imp (fun _ _ => trivial)
theorem ownV_kp {B : Nat} {T : Nat → Prop} {w w' : World} {v : Value} {r : Rw} (h : OwnV B w v r) (hk : Kp T w w') (ht : ∀ (k : Nat) (cs : Array Value) (t : TypeId) (fz : Nat × Nat), w.heap[k]? = some (.cells cs t fz) → t = 25 → ¬ T k) : OwnV B w' v r :=
  own_kp h hk (fun g hg => by obtain ⟨c, f, hc⟩ := own_kind h hg; exact ht _ _ _ _ hc rfl)
theorem ownV_on {B : Nat} {w w' : World} {v : Value} {r : Rw} (h : OwnV B w v r) (hb : Below w.heap.size w w') : OwnV B w' v r := own_kp (T := fun _ => False) h (Kp.of hb) (fun _ _ => id)
theorem pl_add {B B' : Nat} {P : Nat → Prop} {w : World} {b m y : Nat} {most : Int} {F G : List Sm} {v u : Value} {s : Sm} {r : Rw} (h : Pl B P w b m y most F G) (hv : RowAt w v s.ks) (hz : Sz s) (hl : F.length ≤ 1000) (hP : ∀ k, w.heap.size ≤ k → P k) (hB : B ≤ w.heap.size) (ho : OwnV B' w u r) :
    Calls Try.prog 15 #[dp b, .string s.nm, v] w fun e w' => e = .returned (.tuple #[.int .i64 (addI most F s), .int .i64 (addE most F s)]) ∧ Pl B P w' b m y most (addL most F s) G ∧ Below B w w' ∧ OwnV B' w' u r := by
  obtain ⟨⟨s1, h1⟩, ⟨s2, h2⟩⟩ := h
  refine (add_any h1 hv hz.ks hz.nm hz.rng hl hP hB).mono ?_
  rintro e w' ⟨rfl, hd, hk⟩
  refine ⟨rfl, ⟨hd, s2, h2.fk hk (fun k cs t fz hc ht => h1.T_not hc (by rcases ht with rfl | rfl | ⟨rfl, -⟩ <;> decide) (by rcases ht with rfl | rfl | ⟨rfl, -⟩ <;> decide))⟩, hk.below hB h1.T_ge, ownV_kp ho hk (fun k cs t fz hc ht => h1.T_not hc (by rw [ht]; decide) (by rw [ht]; decide))⟩
theorem pl_radd {B B' : Nat} {P : Nat → Prop} {w : World} {b m y : Nat} {most : Int} {F G : List Sm} {v u : Value} {s : Sm} {r : Rw} (h : Pl B P w b m y most F G) (hv : RowAt w v s.ks) (hz : Sz s) (hl : G.length ≤ 1000) (hP : ∀ k, w.heap.size ≤ k → P k) (hB : B ≤ w.heap.size) (ho : OwnV B' w u r) :
    Calls Try.prog 18 #[dp y, .string s.nm, v] w fun e w' => e = .returned (.tuple #[.int .i64 (addI most G s), .int .i64 (addE most G s)]) ∧ Pl B P w' b m y most F (addL most G s) ∧ Below B w w' ∧ OwnV B' w' u r := by
  obtain ⟨⟨s1, h1⟩, ⟨s2, h2⟩⟩ := h
  refine (radd_any h2 hl hv hz.ks hP hB).mono ?_
  rintro e w' ⟨rfl, hd, hk⟩
  refine ⟨rfl, ⟨⟨s1, h1.fk hk (fun k cs t fz hc ht => h2.T_not hc (by rcases ht with rfl | rfl | ⟨rfl, -⟩ <;> decide) (by rcases ht with rfl | rfl | ⟨rfl, -⟩ <;> decide)) (fun k es c hc ht => ?_)⟩, hd⟩, hk.below hB h2.T_ge, ownV_kp ho hk (fun k cs t fz hc ht => h2.T_not hc (by rw [ht]; decide) (by rw [ht]; decide))⟩
  rcases ht with rfl | hg
  · rw [h2.blk] at hc; cases hc
  · obtain ⟨hs, ho', hh⟩ := h2.row
    obtain ⟨c', f, hc'⟩ := own_kind ho' hg
    rw [hc'] at hc; cases hc
/- A clone, and something added to the one that was cloned. -/
def sNo : Sm := ⟨⟨#[97, 110, 111, 116, 104, 101, 114]⟩, []⟩
theorem sz_no : Sz sNo := ⟨by decide, by decide, fun x hx => by cases hx⟩
theorem pl_clone {B B' : Nat} {P : Nat → Prop} {w : World} {b m y : Nat} {most : Int} {F G : List Sm} {u : Value} {r : Rw} (h : Pl B P w b m y most F G) (hl : F.length ≤ 1000) (hB : B ≤ w.heap.size) (ho : OwnV B' w u r) :
    Calls Try.prog 14 #[dp b] w fun e w' => ∃ b' m', e = .returned (dp b') ∧ ((∃ sv, Dk B P w b most sv m F) ∧ (∃ sv, Dk w.heap.size P w' b' most sv m' F) ∧ (∃ sv, Ry B P w' y most sv G)) ∧ Below w.heap.size w w' ∧ OwnV B' w' u r ∧ B ≤ w.heap.size := by
  obtain ⟨⟨s1, h1⟩, ⟨s2, h2⟩⟩ := h
  refine (clone_any h1 hl).mono ?_
  rintro e w' ⟨b', sv', m', rfl, hd, hb⟩
  exact ⟨b', m', rfl, ⟨⟨s1, h1⟩, ⟨sv', hd⟩, ⟨s2, h2.on hb⟩⟩, hb, ownV_on ho hb, hB⟩
theorem pl_old {B B' : Nat} {P : Nat → Prop} {w w2 : World} {b m b' m' y : Nat} {most : Int} {F G : List Sm} {u : Value} {r : Rw} (h : (∃ sv, Dk B P w b most sv m F) ∧ (∃ sv, Dk w.heap.size P w2 b' most sv m' F) ∧ (∃ sv, Ry B P w2 y most sv G)) (hb : Below w.heap.size w w2) (hl : F.length ≤ 1000) (hP : ∀ k, w2.heap.size ≤ k → P k) (hB : B ≤ w.heap.size) (ho : OwnV B' w2 u r) :
    Calls Try.prog 15 #[dp b, .string ⟨#[97, 110, 111, 116, 104, 101, 114]⟩, .slice none 0 0] w2 fun e w' => ∃ x, e = .returned x ∧ Pl B P w' b' m' y most F G ∧ Below B w2 w' ∧ OwnV B' w' u r := by
  obtain ⟨⟨s1, h1⟩, ⟨s2, h2⟩, ⟨s3, h3⟩⟩ := h
  have h1' := h1.on hb
  have hB2 : B ≤ w2.heap.size := Nat.le_trans hB hb.size
  refine (add_any (s := sNo) h1' (SlAt.nil _ _ _ _) sz_no.ks sz_no.nm sz_no.rng hl hP hB2).mono ?_
  rintro e w' ⟨rfl, hd, hk⟩
  refine ⟨_, rfl, ⟨⟨s2, (h2.kp hk (fun e => ?_) (fun g hg e => ?_) (fun e => ?_) (fun k hk' => ?_)).le hB⟩, ⟨s3, h3.fk hk (fun k cs t fz hc ht => h1'.T_not hc (by rcases ht with rfl | rfl | ⟨rfl, -⟩ <;> decide) (by rcases ht with rfl | rfl | ⟨rfl, -⟩ <;> decide))⟩⟩, hk.below hB2 h1'.T_ge, ownV_kp ho hk (fun k cs t fz hc ht => h1'.T_not hc (by rw [ht]; decide) (by rw [ht]; decide))⟩
  · have := h1.T_lt _ e; have := h2.bB; omega
  · obtain ⟨hs, ho', hh⟩ := h2.row
    have := h1.T_lt _ e; have := (own_at ho' hg).1; omega
  · have := h1.T_lt _ e; have := h2.mB; omega
  · obtain ⟨-, c, f, hc⟩ := hk'
    exact h1'.T_not hc (by decide) (by decide)
theorem enters18 : ∀ args w, (callFunc 18 args).run Try.prog w = .ok (.enter 18 args) w := enters_of Try.func18 (by kernel_rfl) rfl
/- Any block but a row's own. -/
def Pn (v : Value) (x : Nat) : Prop := v.ownBlock ≠ some x
/- A row's own block, of whatever it holds. -/
def OwB (w : World) (p : Option Addr) (n : Nat) : Prop := 0 < n → ∃ g arr, p = some ⟨g, 0, none⟩ ∧ w.heap[g]? = some (.cells arr 25) ∧ n * 11 ≤ arr.size
theorem ownV_blk {B : Nat} {w : World} {p : Option Addr} {n c : Nat} {r : Rw} (h : OwnV B w (.slice p n c) r) (hn : List.length r = n) : OwB w p n := by
  intro h0
  rcases h.2 with ⟨hv, h1⟩ | ⟨g, cap, cur, hv, hg, hblk, hc, hm, hs, -⟩
  · omega
  · injection hv with h1 h2 h3
    refine ⟨g, cur, h1, hblk, ?_⟩
    rw [hs]
    exact Nat.mul_le_mul_right _ (by omega)
theorem cells11 {w : World} {g : Nat} {arr : Array Value} {t : TypeId} {i : Nat} (hb : w.heap[g]? = some (.cells arr t)) (hs : i + 11 ≤ arr.size) :
    ∃ a0 a1 a2 a3 a4 a5 a6 a7 a8 a9 a10, w.cell? ⟨g, i, none⟩ = some a0 ∧ w.cell? ⟨g, i + 1, none⟩ = some a1 ∧ w.cell? ⟨g, i + 2, none⟩ = some a2 ∧ w.cell? ⟨g, i + 3, none⟩ = some a3 ∧ w.cell? ⟨g, i + 4, none⟩ = some a4 ∧ w.cell? ⟨g, i + 5, none⟩ = some a5 ∧ w.cell? ⟨g, i + 6, none⟩ = some a6 ∧ w.cell? ⟨g, i + 7, none⟩ = some a7 ∧ w.cell? ⟨g, i + 8, none⟩ = some a8 ∧ w.cell? ⟨g, i + 9, none⟩ = some a9 ∧ w.cell? ⟨g, i + 10, none⟩ = some a10 := by
  have h : ∀ j, j < arr.size → ∃ a, w.cell? ⟨g, j, none⟩ = some a := fun j hj => ⟨arr[j], by rw [block_cell hb, Array.getElem?_eq_getElem hj]⟩
  obtain ⟨a0, h0⟩ := h i (by omega)
  obtain ⟨a1, h1⟩ := h (i + 1) (by omega)
  obtain ⟨a2, h2⟩ := h (i + 2) (by omega)
  obtain ⟨a3, h3⟩ := h (i + 3) (by omega)
  obtain ⟨a4, h4⟩ := h (i + 4) (by omega)
  obtain ⟨a5, h5⟩ := h (i + 5) (by omega)
  obtain ⟨a6, h6⟩ := h (i + 6) (by omega)
  obtain ⟨a7, h7⟩ := h (i + 7) (by omega)
  obtain ⟨a8, h8⟩ := h (i + 8) (by omega)
  obtain ⟨a9, h9⟩ := h (i + 9) (by omega)
  obtain ⟨a10, h10⟩ := h (i + 10) (by omega)
  exact ⟨a0, a1, a2, a3, a4, a5, a6, a7, a8, a9, a10, h0, h1, h2, h3, h4, h5, h6, h7, h8, h9, h10⟩
theorem pl_own {B B' : Nat} {w w' : World} {b m y : Nat} {most : Int} {F G : List Sm} {v : Value} {r : Rw} (h : Pl B (Pn v) w b m y most F G) (ho : OwnV B' w v r) (hk : Kp (fun x => v.ownBlock = some x) w w') : Pl B (Pn v) w' b m y most F G := by
  obtain ⟨⟨s1, h1⟩, ⟨s2, h2⟩⟩ := h
  refine ⟨⟨s1, h1.fk hk (fun k cs t fz hc ht e => ?_) (fun k es c hc e => ?_)⟩, ⟨s2, h2.fk hk (fun k cs t fz hc ht e => ?_)⟩⟩
  · obtain ⟨c', f, hc'⟩ := own_kind ho e
    rcases ht with rfl | rfl | ⟨rfl, hp⟩
    · rw [hc] at hc'; cases hc'
    · rw [hc] at hc'; cases hc'
    · exact hp e
  · obtain ⟨c', f, hc'⟩ := own_kind ho e
    rw [hc] at hc'; cases hc'
  · obtain ⟨c', f, hc'⟩ := own_kind ho e
    rcases ht with rfl | rfl | ⟨rfl, hp⟩
    · rw [hc] at hc'; cases hc'
    · rw [hc] at hc'; cases hc'
    · exact hp e
theorem kp_own {B' : Nat} {w w' : World} {v : Value} {r : Rw} (ho : OwnV B' w v r) (hk : Kp (fun x => v.ownBlock = some x) w w') {B : Nat} (hB : B ≤ B') (hw : B ≤ w.heap.size) : Below B w w' := hk.below hw (fun _ e => Nat.le_trans hB (own_at ho e).1)
end Go.Proofs.Ytnjeocjachmbkaa
