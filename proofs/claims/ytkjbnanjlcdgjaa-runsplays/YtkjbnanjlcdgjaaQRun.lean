/-
  How a run lies in memory.
-/
import Derived.Test.YtkjbnanjlcdgjaaQMem
import Derived.Test.YtkjbnanjlcdgjaaQRMath
namespace Go.Proofs.Ytkjbnanjlcdgjaa
open Go.RowKit Go.Sort

theorem hid {p : Prop} (h : p) : Hid p := h
theorem set_block {w : World} {b i : Nat} {cs : Array Value} {t : TypeId} {fz : Nat × Nat} (h : w.heap[b]? = some (.cells cs t fz)) (u : Value) : (w.setCell ⟨b, i, none⟩ u).heap[b]? = some (.cells (cs.setIfInBounds i u) t fz) := by
  simp [World.setCell, Array.getElem?_modify, h]
theorem block_frozen {w : World} {b : Nat} {xs : Array Value} {t : TypeId} (h : w.heap[b]? = some (.cells xs t)) (o : Nat) : w.frozen? ⟨b, o, none⟩ = false := by
  simp [World.frozen?, h]
theorem cell_onB {w w' : World} {a : Addr} {v : Value} (h : w.cell? a = some v) (hb : Below w.heap.size w w') : w'.cell? a = some v :=
  (hb.cell (block_lt_of_cell h)).trans h
theorem below_drewN {B : Nat} {a w : World} (h : Below B a w) (n : Nat) : Below B a (w.drewN n) := h.trans ⟨rfl, rfl, rfl, Nat.le_refl _, fun _ _ => rfl⟩
abbrev dp (b : Nat) : Value := .pointer (some ⟨b, 0, none⟩)
/- A sample in memory: its moment, and the slice of its values. -/
structure Sh where
  t : Int
  kv : Value
instance : Inhabited Sh := ⟨⟨0, .slice none 0 0⟩⟩
def Sh.cells (h : Sh) : List Value := [.int .i64 h.t, h.kv]
theorem sh_len (h : Sh) : h.cells.length = 2 := rfl
theorem sh_cells {h : Sh} (hk : h.kv.oneCell' = true) : ∀ c ∈ h.cells, c.oneCell' = true := by
  intro c hc; simp [Sh.cells] at hc; rcases hc with rfl | rfl
  · rfl
  · exact hk
structure ShCells (w : World) (b o : Nat) (h : Sh) : Prop where
  c0 : w.cell? ⟨b, o, none⟩ = some (.int .i64 h.t)
  c1 : w.cell? ⟨b, o + 1, none⟩ = some h.kv
theorem sh_at {w : World} {b o : Nat} {h : Sh} (x : CellsAt w b o h.cells) : ShCells w b o h := ⟨x 0 _ rfl, x 1 _ rfl⟩
def HeadsS (P : Nat → Prop) (w : World) (hs : List Sh) (l : List Sp) : Prop := hs.length = l.length ∧ ∀ (j : Nat) h s, hs[j]? = some h → l[j]? = some s → h.t = s.t ∧ RowIn (ty36 P w) w h.kv s.vs
theorem HeadsS.kp {P T : Nat → Prop} {w w' : World} {hs : List Sh} {l : List Sp} (h : HeadsS P w hs l) (hk : Kp T w w') (ht : ∀ k, ty36 P w k → ¬ T k) : HeadsS P w' hs l :=
  ⟨h.1, fun j x s h1 h2 => ⟨(h.2 j x s h1 h2).1, row_kp (h.2 j x s h1 h2).2 hk ht⟩⟩
theorem HeadsS.on {P : Nat → Prop} {w w' : World} {hs : List Sh} {l : List Sp} (h : HeadsS P w hs l) (hb : Below w.heap.size w w') : HeadsS P w' hs l := h.kp (T := fun _ => False) (Kp.of hb) (fun _ _ => id)
theorem HeadsS.P {P P' : Nat → Prop} {w : World} {hs : List Sh} {l : List Sp} (h : HeadsS P w hs l) (hp : ∀ k, k < w.heap.size → P k → P' k) : HeadsS P' w hs l :=
  ⟨h.1, fun j x s h1 h2 => ⟨(h.2 j x s h1 h2).1, row_P (h.2 j x s h1 h2).2 hp⟩⟩
theorem HeadsS.nil (P : Nat → Prop) (w : World) : HeadsS P w [] [] := ⟨rfl, fun j x s h1 _ => by simp at h1⟩
theorem HeadsS.one {P : Nat → Prop} {w : World} {h : Sh} {s : Sp} (ht : h.t = s.t) (hr : RowIn (ty36 P w) w h.kv s.vs) : HeadsS P w [h] [s] := by
  refine ⟨rfl, fun j x q h1 h2 => ?_⟩
  cases j with
  | zero => simp at h1 h2; subst h1 h2; exact ⟨ht, hr⟩
  | succ j => simp at h1
theorem HeadsS.app {P : Nat → Prop} {w : World} {hs hs' : List Sh} {l l' : List Sp} (h : HeadsS P w hs l) (h' : HeadsS P w hs' l') : HeadsS P w (hs ++ hs') (l ++ l') := by
  refine ⟨by simp [h.1, h'.1], fun j x q h1 h2 => ?_⟩
  by_cases hlt : j < hs.length
  · rw [List.getElem?_append_left hlt] at h1
    rw [List.getElem?_append_left (by rw [← h.1]; exact hlt)] at h2
    exact h.2 j x q h1 h2
  · rw [List.getElem?_append_right (by omega)] at h1
    rw [List.getElem?_append_right (by rw [← h.1]; omega), ← h.1] at h2
    exact h'.2 _ x q h1 h2
theorem HeadsS.take {P : Nat → Prop} {w : World} {hs : List Sh} {l : List Sp} (h : HeadsS P w hs l) (k : Nat) : HeadsS P w (hs.take k) (l.take k) := by
  refine ⟨by simp [h.1], fun j x q h1 h2 => ?_⟩
  rw [List.getElem?_take] at h1 h2
  split at h1
  · rw [if_pos ‹_›] at h2; exact h.2 j x q h1 h2
  · cases h1
theorem HeadsS.drop {P : Nat → Prop} {w : World} {hs : List Sh} {l : List Sp} (h : HeadsS P w hs l) (k : Nat) : HeadsS P w (hs.drop k) (l.drop k) := by
  refine ⟨by simp [h.1], fun j x q h1 h2 => ?_⟩
  rw [List.getElem?_drop] at h1 h2
  exact h.2 _ x q h1 h2
theorem heads_one {P : Nat → Prop} {w : World} {hs : List Sh} {l : List Sp} (h : HeadsS P w hs l) : ∀ x ∈ hs, x.kv.oneCell' = true := by
  intro x hx
  obtain ⟨j, hj, rfl⟩ := List.getElem_of_mem hx
  have hjl : j < l.length := by rw [← h.1]; exact hj
  obtain ⟨-, p, c, hv, -⟩ := h.2 j _ _ (List.getElem?_eq_getElem hj) (List.getElem?_eq_getElem hjl)
  rw [hv]; rfl
theorem info32 : (Try.prog.info? 32).map (fun i => (i.zero, i.size, i.bytes)) = some (some (.agg #[.int .i64 0, .slice none 0 0]), 2, 32) := by kernel_rfl
theorem info22 : (Try.prog.info? 22).map (fun i => (i.zero, i.size, i.bytes)) = some (some (.slice none 0 0), 1, 24) := by kernel_rfl
theorem elem32 : ElemN 22 32 2 32 := by
  obtain ⟨i, hi, h0, h1, h2⟩ := info_parts info32
  exact ⟨Try.underlying22, by omega, i, _, hi, h0, h1, Nat.le_of_eq h2, rfl⟩
theorem elem22 : ElemN 49 22 1 24 := by
  obtain ⟨i, hi, h0, h1, h2⟩ := info_parts info22
  exact ⟨Try.underlying49, by omega, i, _, hi, h0, h1, Nat.le_of_eq h2, rfl⟩
theorem bs2 {n : Nat} (h : n ≤ 1000) : n * bsz 2 ≤ 140737488355328 := by unfold bsz; simp; omega
theorem small32 {n m : Nat} (h : n ≤ 1000) (h' : m ≤ 1000) : (n + m) * 32 ≤ 140737488355328 := by omega
/- A run in memory: its block, its slice of pieces, and the one piece. -/
structure Rk (B : Nat) (P : Nat → Prop) (w : World) (b : Nat) (sv pv : Value) (l : List Sp) : Prop where
  bB : B ≤ b
  blk : w.heap[b]? = some (.cells #[sv] 51)
  up : Up l
  pc : (l = [] ∧ sv = .slice none 0 0 ∧ pv = .slice none 0 0) ∨ (l ≠ [] ∧ ∃ g c arr, sv = .slice (some ⟨g, 0, none⟩) 1 c ∧ 1 ≤ c ∧ B ≤ g ∧ w.heap[g]? = some (.cells arr 22) ∧ arr[0]? = some pv)
  row : ∃ hs, Own Sh.cells 2 32 B w pv hs ∧ HeadsS P w hs l
def Tr (b : Nat) (sv pv : Value) (k : Nat) : Prop := k = b ∨ sv.ownBlock = some k ∨ pv.ownBlock = some k
theorem Rk.kp {B : Nat} {P T : Nat → Prop} {w w' : World} {b : Nat} {sv pv : Value} {l : List Sp} (h : Rk B P w b sv pv l) (hk : Kp T w w') (hb : ∀ k, Tr b sv pv k → ¬ T k) (ht : ∀ k, ty36 P w k → ¬ T k) : Rk B P w' b sv pv l := by
  obtain ⟨hs, ho, hh⟩ := h.row
  refine ⟨h.bB, hk.blk h.blk (hb b (.inl rfl)), h.up, ?_, ⟨hs, own_kp ho hk (fun g hg => hb g (.inr (.inr hg))), hh.kp hk ht⟩⟩
  rcases h.pc with h0 | ⟨hn, g, c, arr, rfl, h1, h2, h3, h4⟩
  · exact .inl h0
  · exact .inr ⟨hn, g, c, arr, rfl, h1, h2, hk.blk h3 (hb g (.inr (.inl rfl))), h4⟩
theorem Rk.on {B : Nat} {P : Nat → Prop} {w w' : World} {b : Nat} {sv pv : Value} {l : List Sp} (h : Rk B P w b sv pv l) (hb : Below w.heap.size w w') : Rk B P w' b sv pv l :=
  h.kp (T := fun _ => False) (Kp.of hb) (fun _ _ => id) (fun _ _ => id)
theorem Rk.P {B : Nat} {P P' : Nat → Prop} {w : World} {b : Nat} {sv pv : Value} {l : List Sp} (h : Rk B P w b sv pv l) (hp : ∀ k, k < w.heap.size → P k → P' k) : Rk B P' w b sv pv l := by
  obtain ⟨hs, ho, hh⟩ := h.row
  exact ⟨h.bB, h.blk, h.up, h.pc, ⟨hs, ho, hh.P hp⟩⟩
theorem Rk.le {B B' : Nat} {P : Nat → Prop} {w : World} {b : Nat} {sv pv : Value} {l : List Sp} (h : Rk B P w b sv pv l) (hb : B' ≤ B) : Rk B' P w b sv pv l := by
  obtain ⟨hs, ho, hh⟩ := h.row
  refine ⟨Nat.le_trans hb h.bB, h.blk, h.up, ?_, ⟨hs, own_le ho hb, hh⟩⟩
  rcases h.pc with h0 | ⟨hn, g, c, arr, h0, h1, h2, h3, h4⟩
  · exact .inl h0
  · exact .inr ⟨hn, g, c, arr, h0, h1, Nat.le_trans hb h2, h3, h4⟩
theorem Rk.T_ge {B : Nat} {P : Nat → Prop} {w : World} {b : Nat} {sv pv : Value} {l : List Sp} (h : Rk B P w b sv pv l) : ∀ k, Tr b sv pv k → B ≤ k := by
  obtain ⟨hs, ho, hh⟩ := h.row
  rintro k (rfl | hk | hk)
  · exact h.bB
  · rcases h.pc with ⟨-, rfl, -⟩ | ⟨hn, g, c, arr, rfl, h1, h2, h3, h4⟩
    · cases hk
    · cases hk; exact h2
  · exact (own_at ho hk).1
theorem Rk.T_kind {B : Nat} {P : Nat → Prop} {w : World} {b : Nat} {sv pv : Value} {l : List Sp} (h : Rk B P w b sv pv l) : ∀ k, Tr b sv pv k → ∃ cs t fz, w.heap[k]? = some (.cells cs t fz) ∧ (t = 51 ∨ t = 22 ∨ t = 32) := by
  obtain ⟨hs, ho, hh⟩ := h.row
  rintro k (rfl | hk | hk)
  · exact ⟨_, _, _, h.blk, .inl rfl⟩
  · rcases h.pc with ⟨-, rfl, -⟩ | ⟨hn, g, c, arr, rfl, h1, h2, h3, h4⟩
    · cases hk
    · cases hk; exact ⟨_, _, _, h3, .inr (.inl rfl)⟩
  · obtain ⟨c, f, hc⟩ := own_kind ho hk
    exact ⟨_, _, _, hc, .inr (.inr rfl)⟩
theorem Rk.T_lt {B : Nat} {P : Nat → Prop} {w : World} {b : Nat} {sv pv : Value} {l : List Sp} (h : Rk B P w b sv pv l) : ∀ k, Tr b sv pv k → k < w.heap.size := fun k hk => by
  obtain ⟨_, _, _, hc, _⟩ := h.T_kind k hk
  exact lt_of_block hc
theorem Rk.T_not {B : Nat} {P : Nat → Prop} {w : World} {b : Nat} {sv pv : Value} {l : List Sp} (h : Rk B P w b sv pv l) {k : Nat} {cs : Array Value} {t : TypeId} {fz : Nat × Nat} (hk : w.heap[k]? = some (.cells cs t fz)) (h1 : t ≠ 51) (h2 : t ≠ 22) (h3 : t ≠ 32) : ¬ Tr b sv pv k := by
  intro hT
  obtain ⟨cs', t', fz', hc, ht⟩ := h.T_kind k hT
  rw [hc] at hk; cases hk
  rcases ht with e | e | e
  · exact h1 e
  · exact h2 e
  · exact h3 e
theorem Rk.ty_not {B : Nat} {P P' : Nat → Prop} {w : World} {b : Nat} {sv pv : Value} {l : List Sp} (h : Rk B P w b sv pv l) {k : Nat} (hk : ty36 P' w k) : ¬ Tr b sv pv k := by
  obtain ⟨-, c, fz, hc⟩ := hk
  exact h.T_not hc (by decide) (by decide) (by decide)
theorem Rk.ne {B : Nat} {P : Nat → Prop} {w : World} {b : Nat} {sv pv : Value} {l : List Sp} (h : Rk B P w b sv pv l) : sv.ownBlock ≠ some b ∧ pv.ownBlock ≠ some b ∧ (∀ g, sv.ownBlock = some g → pv.ownBlock ≠ some g) := by
  obtain ⟨hs, ho, hh⟩ := h.row
  refine ⟨fun e => ?_, fun e => ?_, fun g e e2 => ?_⟩
  · rcases h.pc with ⟨-, rfl, -⟩ | ⟨hn, g, c, arr, rfl, h1, h2, h3, h4⟩
    · cases e
    · cases e; rw [h.blk] at h3; cases h3
  · obtain ⟨c, f, hc⟩ := own_kind ho e
    rw [h.blk] at hc; cases hc
  · obtain ⟨c, f, hc⟩ := own_kind ho e2
    rcases h.pc with ⟨-, rfl, -⟩ | ⟨hn, g, c, arr, rfl, h1, h2, h3, h4⟩
    · cases e
    · cases e; rw [h3] at hc; cases hc
/- The samples one by one. -/
theorem own_sl {B : Nat} {P : Nat → Prop} {w : World} {pv : Value} {hs : List Sh} {l : List Sp} (ho : Own Sh.cells 2 32 B w pv hs) (hh : HeadsS P w hs l) (hlen : l.length ≤ 1000) :
    ∃ p c, pv = .slice p l.length c ∧ l.length ≤ c ∧ ∀ j s, l[j]? = some s → ∃ g o kp kc, p = some ⟨g, o, none⟩ ∧ w.cell? ⟨g, o + j * 2, none⟩ = some (.int .i64 s.t) ∧ w.cell? ⟨g, o + j * 2 + 1, none⟩ = some (.slice kp (List.length s.vs) kc) ∧ RowIn (ty36 P w) w (.slice kp (List.length s.vs) kc) s.vs := by
  obtain ⟨p, c, hv, hc, hm, hx⟩ := Own.sl ho sh_len (bs2 (by rw [hh.1]; exact hlen))
  refine ⟨p, c, by rw [hv, hh.1], by have := hc.1; rw [hh.1] at this; exact this, fun j s hj => ?_⟩
  have hjl : j < hs.length := by rw [hh.1]; exact (List.getElem?_eq_some_iff.1 hj).1
  obtain ⟨g, o, hp, -, hcell⟩ := hx (by intro e; subst e; simp at hjl)
  obtain ⟨hnm, hrow⟩ := hh.2 j _ _ (List.getElem?_eq_getElem hjl) hj
  obtain ⟨c0, c1⟩ := sh_at (hcell j _ (List.getElem?_eq_getElem hjl))
  obtain ⟨kp, kc, hk, hr⟩ := hrow
  rw [hnm] at c0
  rw [hk] at c1
  exact ⟨g, o, kp, kc, hp, c0, c1, kp, kc, rfl, hr⟩
theorem own_sl0 {B : Nat} {P : Nat → Prop} {w : World} {pv : Value} {hs : List Sh} {l : List Sp} (ho : Own Sh.cells 2 32 B w pv hs) (hh : HeadsS P w hs l) :
    ∃ p c, pv = .slice p l.length c ∧ l.length ≤ c ∧ c ≤ maxLen ∧ (l ≠ [] → ∃ g, p = some ⟨g, 0, none⟩) := by
  rcases ho.2 with ⟨hv, h0⟩ | ⟨g, cap, cur, hv, hg, hblk, hc, hm, _⟩
  · exact ⟨none, 0, by rw [hv, ← hh.1, h0], by rw [← hh.1, h0]; exact Nat.le_refl _, Nat.zero_le _, fun hn => absurd (List.eq_nil_of_length_eq_zero (by rw [← hh.1, h0])) hn⟩
  · exact ⟨_, cap, by rw [hv, hh.1], by rw [← hh.1]; exact hc, hm, fun _ => ⟨g, rfl⟩⟩
end Go.Proofs.Ytkjbnanjlcdgjaa
