/-
  What the statements' own load, point, cond and kind return.
-/
import Derived.Test.YtmkilckoeaekkaaQHMay
namespace Go.Proofs.Ytmkilckoeaekkaa
open Go.RowKit Go.Sort Go.Maps Go.Shelf

abbrev loadB : ByteArray := ⟨#[108, 111, 97, 100]⟩
abbrev hostB : ByteArray := ⟨#[104, 111, 115, 116]⟩
abbrev nB : ByteArray := ⟨#[110]⟩
def Fr (w w' : World) (k : Nat) : Prop := w.heap.size ≤ k ∧ k < w'.heap.size
theorem one_sl {α : Type} {enc : α → List Value} {k : Nat} {w w' : World} {g c t : Nat} {x : α} {fz : Nat × Nat} (hg : w.heap.size ≤ g) (h : w'.heap[g]? = some (.cells (enc x).toArray t fz)) (hc : 1 ≤ c ∧ c ≤ maxLen) : SlAt (Fr w w') enc k w' (.slice (some ⟨g, 0, none⟩) 1 c) [x] := by
  refine ⟨_, c, rfl, hc, fun _ => ⟨g, 0, rfl, ⟨hg, lt_of_block h⟩, fun j y hj i u hu => ?_⟩⟩
  have hj0 : j = 0 := by have := (List.getElem?_eq_some_iff.1 hj).1; simp at this; omega
  subst hj0
  simp at hj
  subst hj
  rw [block_cell h]
  simpa using hu
def hostC : Cl := ⟨hostB, 2⟩
def nC : Cl := ⟨nB, 1⟩
def strV (s : ByteArray) : Vl := ⟨2, 0, s, 0, 0, 0, 0, 0, 0, 0, 0⟩
def intV : Vl := ⟨1, 0, ⟨#[]⟩, 0, 0, 0, 0, 0, 0, 0, 0⟩
theorem three (w : World) (a b c : Obj) : (((w.alloc a).alloc b).alloc c).heap[w.heap.size]? = some a ∧ (((w.alloc a).alloc b).alloc c).heap[w.heap.size + 1]? = some b ∧ (((w.alloc a).alloc b).alloc c).heap[w.heap.size + 1 + 1]? = some c ∧ Below w.heap.size w (((w.alloc a).alloc b).alloc c) := by
  have h1 := alloc_block (w.alloc a) b
  have h2 := alloc_block ((w.alloc a).alloc b) c
  simp only [World.size_alloc] at h1 h2
  refine ⟨(Kp.alloc (fun _ => False) _ _).blk ((Kp.alloc (fun _ => False) _ _).blk (alloc_block w a) id) id, (Kp.alloc (fun _ => False) _ _).blk h1 id, h2, ?_⟩
  exact (((Below.refl _ _).alloc (Nat.le_refl _) _).alloc (by simp) _).alloc (by simp; omega) _
theorem two_al (w : World) (a b : Obj) : ((w.alloc a).alloc b).heap[w.heap.size]? = some a ∧ ((w.alloc a).alloc b).heap[w.heap.size + 1]? = some b ∧ Below w.heap.size w ((w.alloc a).alloc b) := by
  have h1 := alloc_block (w.alloc a) b
  simp only [World.size_alloc] at h1
  refine ⟨(Kp.alloc (fun _ => False) _ _).blk (alloc_block w a) id, h1, ?_⟩
  exact ((Below.refl _ _).alloc (Nat.le_refl _) _).alloc (by simp) _
set_option maxHeartbeats 1000000 in
theorem load_any (w : World) : Calls Try.prog 20 #[] w fun e w' => ∃ ks vs, e = .returned (Sc loadB ks vs) ∧ SlAt (Fr w w') Cl.cells 2 w' ks [hostC] ∧ SlAt (Fr w w') Cl.cells 2 w' vs [nC] ∧ Below w.heap.size w w' := by
  have h3 := hid (three w)
  go_enter Try.func20, Try.ntmps20
  go_wp2
  refine bodyPost_ret (v := Sc loadB (.slice (some ⟨w.heap.size + 1, 0, none⟩) 1 1) (.slice (some ⟨w.heap.size + 1 + 1, 0, none⟩) 1 1)) (by simp [results, Try.results20, go_sem]) rfl ⟨_, _, rfl, ?_, ?_, (h3.out _ _ _).2.2.2⟩
  · exact one_sl (x := hostC) (by omega) (h3.out _ _ _).2.1 (by unfold maxLen; omega)
  · exact one_sl (x := nC) (by omega) (h3.out _ _ _).2.2.1 (by unfold maxLen; omega)
set_option maxHeartbeats 1000000 in
theorem point_any (s : ByteArray) (w : World) : Calls Try.prog 21 #[.string s] w fun e w' => ∃ ks vs, e = .returned (Po loadB ks 0 vs) ∧ SlAt (Fr w w') Vl.cells 11 w' ks [strV s] ∧ SlAt (Fr w w') Vl.cells 11 w' vs [intV] ∧ Below w.heap.size w w' := by
  have h3 := hid (three w)
  go_enter Try.func21, Try.ntmps21
  go_wp2
  refine bodyPost_ret (v := Po loadB (.slice (some ⟨w.heap.size + 1, 0, none⟩) 1 1) 0 (.slice (some ⟨w.heap.size + 1 + 1, 0, none⟩) 1 1)) (by simp [results, Try.results21, go_sem]) rfl ⟨_, _, rfl, ?_, ?_, (h3.out _ _ _).2.2.2⟩
  · exact one_sl (x := strV s) (by omega) (h3.out _ _ _).2.1 (by unfold maxLen; omega)
  · exact one_sl (x := intV) (by omega) (h3.out _ _ _).2.2.1 (by unfold maxLen; omega)
/- The one node of a condition. -/
def condN (kind how : Int) (s : ByteArray) : Nd := ⟨kind, hostB, how, 0, 0, strV s, .slice none 0 0, .slice none 0 0, .slice none 0 0⟩
theorem nil_sl {α : Type} (Q : Nat → Prop) (enc : α → List Value) (k : Nat) (w : World) : SlAt Q enc k w (.slice none 0 0) ([] : List α) := ⟨none, 0, rfl, ⟨Nat.le_refl _, Nat.zero_le _⟩, fun h => absurd rfl h⟩
set_option maxRecDepth 100000 in
set_option maxHeartbeats 2000000 in
theorem cond_any (kind how : Int) {s : ByteArray} (hs : s.size ≤ 562949953421312) (w : World) : Calls Try.prog 22 #[.int .i64 kind, .int .i64 how, .string s] w fun e w' => ∃ g, e = .returned (.agg #[.slice (some ⟨g, 0, none⟩) 1 1]) ∧ w'.heap[g]? = some (.cells (condN kind how s).cells.toArray 63) ∧ w.heap.size ≤ g ∧ Qn (Fr w w') w' (.slice (some ⟨g, 0, none⟩) 1 1) [(condN kind how s, [])] ∧ Below w.heap.size w w' := by
  have h3 := hid (two_al w)
  have HS := hid hs
  clear hs
  go_enter Try.func22, Try.ntmps22
  go_wp2
  refine bodyPost_ret (v := .agg #[.slice (some ⟨w.heap.size + 1, 0, none⟩) 1 1]) (by simp [results, Try.results22, go_sem]) rfl ⟨_, rfl, (h3.out _ _).2.1, by omega, ⟨?_, ?_, by simp⟩, (h3.out _ _).2.2⟩
  · exact one_sl (x := (condN kind how s, ([] : List Int))) (by omega) (h3.out _ _).2.1 (by unfold maxLen; omega)
  · intro x hx
    simp at hx
    subst hx
    exact ⟨by show hostB.size ≤ maxLen; decide, HS.out, nil_sl _ _ _ _, ⟨_, _, _, rfl⟩, ⟨_, _, _, rfl⟩⟩
def kindN (c n : Int) : Int := (if c < 0 then -(c + 1) else c) % n
theorem kind_any {c n : Int} (hc : -9223372036854775808 ≤ c ∧ c ≤ 9223372036854775807) (hn : 0 < n ∧ n ≤ 9223372036854775807) (w : World) : Calls Try.prog 8 #[.int .i64 c, .int .i64 n] w fun e w' => e = .returned (.int .i64 (kindN c n)) ∧ w' = w := by
  generalize hr : kindN c n = r
  have HR := hid hr
  clear hr
  by_cases h : c < 0
  · go_enter Try.func8, Try.ntmps8
    go_wp2
    go_ret
    refine ⟨ret_i ?_, rfl⟩
    rw [← Int.neg_tmod, Int.tmod_eq_emod_of_nonneg (by omega), ← HR.out]
    unfold kindN
    rw [if_pos h]
  · go_enter Try.func8, Try.ntmps8
    go_wp2
    go_ret
    refine ⟨ret_i ?_, rfl⟩
    rw [← HR.out]
    unfold kindN
    rw [if_neg (by omega)]
end Go.Proofs.Ytmkilckoeaekkaa
