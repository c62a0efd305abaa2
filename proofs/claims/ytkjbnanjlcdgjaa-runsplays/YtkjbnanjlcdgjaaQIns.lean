/-
  What Go's slices.Insert returns, of one sample into a row of samples: at its end.
-/
import Derived.Test.YtkjbnanjlcdgjaaQAppP
import Derived.Test.YtkjbnanjlcdgjaaQCopy
namespace Go.Proofs.Ytkjbnanjlcdgjaa
open Go.RowKit Go.Sort

/- A slice of one sample. -/
theorem sh_sl {w : World} {vb : Nat} {s : Sh} {t : TypeId} (hv : w.heap[vb]? = some (.cells #[.int .i64 s.t, s.kv] t)) : SlAt any Sh.cells 2 w (.slice (some ⟨vb, 0, none⟩) 1 1) [s] := by
  refine ⟨_, 1, rfl, ⟨Nat.le_refl _, fun e => by cases e⟩, by simp [maxLen], fun _ => ⟨_, 0, rfl, ⟨trivial, by simp [bsz]⟩, fun j x hj i u hu => ?_⟩⟩
  have hj0 : j = 0 := by have := (List.getElem?_eq_some_iff.1 hj).1; simp at this; omega
  subst hj0
  simp at hj
  subst hj
  have hi : i < 2 := by have := (List.getElem?_eq_some_iff.1 hu).1; simpa [Sh.cells] using this
  rw [block_cell hv]
  rcases i with _ | _ | i
  · simpa [Sh.cells] using hu
  · simpa [Sh.cells] using hu
  · omega
/- What Insert leaves. -/
def InsP (B : Nat) (pv : Value) (hs : List Sh) (w : World) (e : Ending) (w' : World) : Prop := ∃ pv', e = .returned pv' ∧ Own Sh.cells 2 32 B w' pv' hs ∧ Kp (fun k => pv.ownBlock = some k) w w' ∧ At w pv pv'
theorem own_form1 {B n : Nat} {w : World} {v : Value} {xs : List Sh} (h : Own Sh.cells 2 32 B w v xs) (hn : xs.length = n) : ∃ p c, v = .slice p n c ∧ n ≤ c ∧ c ≤ maxLen ∧ (p = none → n = 0 ∧ c = 0) ∧ (∀ a, p = some a → ∃ g, a = ⟨g, 0, none⟩) := by
  subst hn
  rcases h.2 with ⟨hv, h0⟩ | ⟨g, cap, cur, hv, hg, hblk, hc, hm, q⟩
  · exact ⟨none, 0, by rw [hv, h0], by omega, Nat.zero_le _, (fun _ => ⟨h0, rfl⟩), (fun a e => by cases e)⟩
  · exact ⟨_, cap, hv, hc, hm, (fun e => by cases e), (fun a e => ⟨g, by cases e; rfl⟩)⟩
set_option maxRecDepth 100000 in
set_option maxHeartbeats 2000000 in
theorem ins_end {B vb n : Nat} {w : World} {pv : Value} {hs : List Sh} {s : Sh} (ho : Own Sh.cells 2 32 B w pv hs) (hl : n ≤ 1000) (hn : hs.length = n) (hB : B ≤ w.heap.size) (hv : w.heap[vb]? = some (.cells #[.int .i64 s.t, s.kv] 32)) (h1 : s.kv.oneCell' = true) :
    Calls Try.prog 23 #[pv, .int .i64 n, .slice (some ⟨vb, 0, none⟩) 1 1] w (InsP B pv (hs ++ [s]) w) := by
  have HO := hid ho
  obtain ⟨p, c, rfl, hc, hm, hp0, hp1⟩ := own_form1 ho hn
  unfold maxLen at hm
  have HV := hid hv
  have H1 := hid h1
  have HN := hid hn
  clear ho hv h1 hn
  cases p with
  | none =>
    obtain ⟨rfl, rfl⟩ := hp0 rfl
    clear hp0 hp1
    go_enter Try.func23, Try.ntmps23
    go_wp2_with (at_builtin; refine app_P elem32 sh_len (fun x hx => by simp at hx; subst hx; exact sh_cells H1.out) rfl _ _ rfl rfl HO.out rfl (sh_sl HV.out) (by have := HN.out; simp only [List.length_cons, List.length_nil]; omega) (by decide) hB ?_; intro v' w1 hown hg hat)
    go_ret
    exact ⟨_, rfl, hown, Kp.grown hg (fun k e => e), hat⟩
  | some ad =>
    obtain ⟨g, rfl⟩ := hp1 ad rfl
    clear hp0 hp1
    by_cases hcn : c = n
    · subst hcn
      go_enter Try.func23, Try.ntmps23
      go_wp2_with (at_builtin; refine app_P elem32 sh_len (fun x hx => by simp at hx; subst hx; exact sh_cells H1.out) rfl _ _ rfl rfl HO.out rfl (sh_sl HV.out) (by have := HN.out; simp only [List.length_cons, List.length_nil]; omega) (by decide) hB ?_; intro v' w1 hown hg hat)
      go_ret
      exact ⟨_, rfl, hown, Kp.grown hg (fun k e => e), hat⟩
    · go_enter Try.func23, Try.ntmps23
      go_wp2_with (at_builtin; refine app_P elem32 sh_len (fun x hx => by simp at hx; subst hx; exact sh_cells H1.out) rfl _ _ rfl rfl HO.out rfl (sh_sl HV.out) (by have := HN.out; simp only [List.length_cons, List.length_nil]; omega) (by decide) hB ?_; intro v' w1 hown hg hat)
      go_ret
      exact ⟨_, rfl, hown, Kp.grown hg (fun k e => e), hat⟩
end Go.Proofs.Ytkjbnanjlcdgjaa
