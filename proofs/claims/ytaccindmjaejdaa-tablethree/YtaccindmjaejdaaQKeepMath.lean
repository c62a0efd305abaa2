/-
  Columns with names of their own: a name is among the chosen ones just where its place is.
-/
import Derived.Test.YtaccindmjaejdaaQKeep
namespace Go.Proofs.Ytaccindmjaejdaa
open Go.RowKit Go.Sort Go.Shelf

theorem first_hit (p : Nat → Bool) : ∀ n : Nat, (∀ j, j < n → p j = false) ∨ ∃ k, k < n ∧ p k = true ∧ ∀ j, j < k → p j = false
  | 0 => .inl fun _ h => absurd h (Nat.not_lt_zero _)
  | n + 1 => by
    rcases first_hit p n with h | ⟨k, hk, h1, h2⟩
    · cases hn : p n with
      | false =>
        refine .inl fun j hj => ?_
        by_cases e : j = n
        · subst e; exact hn
        · exact h j (by omega)
      | true => exact .inr ⟨n, by omega, hn, h⟩
    · exact .inr ⟨k, by omega, h1, h2⟩
theorem find_spec (cs : List Cl) (nm : ByteArray) : (findC cs nm = -1 ∧ ∀ j, j < cs.length → isNm nm cs[j]! = false) ∨ ∃ k : Nat, k < cs.length ∧ findC cs nm = k ∧ isNm nm cs[k]! = true := by
  rcases first_hit (fun j => isNm nm cs[j]!) cs.length with h | ⟨k, hk, h1, h2⟩
  · exact .inl ⟨findC_miss h, h⟩
  · exact .inr ⟨k, hk, findC_hit hk h1 h2, h1⟩
theorem check_unique {cs : List Cl} (h : colsB cs = true) {j : Nat} (hj : j < cs.length) : findC cs cs[j]!.nm = j := by
  simp only [colsB, decide_eq_true_eq] at h
  have := h.2 j hj
  simp only [colOk, Bool.and_eq_true, decide_eq_true_eq] at this
  exact this.2.1
theorem check_colsB {cs : List Cl} {rs : List Rw} (h : checkV cs rs = 0) : colsB cs = true := by
  unfold checkV at h
  split at h
  · assumption
  · omega
theorem find_mem {cs : List Cl} {nm : ByteArray} {acc : List Nat} (h : colsB cs = true) (hacc : ∀ p ∈ acc, p < cs.length) (hf : 0 ≤ findC cs nm) : 0 ≤ findC (acc.map fun p => cs[p]!) nm ↔ (findC cs nm).toNat ∈ acc := by
  rcases find_spec cs nm with ⟨e, _⟩ | ⟨K, hK, eK, hnm⟩
  · omega
  · have hKn : cs[K]!.nm = nm := by simpa [isNm] using hnm
    have eT : (findC cs nm).toNat = K := by omega
    rw [eT]
    constructor
    · intro h0
      rcases find_spec (acc.map fun p => cs[p]!) nm with ⟨e, _⟩ | ⟨j, hj, ej, hjn⟩
      · omega
      · have hj' : j < acc.length := by simpa using hj
        have e1 : (acc.map fun p => cs[p]!)[j]! = cs[acc[j]!]! := by
          rw [List.getElem!_eq_getElem?_getD, List.getElem?_map, get!_some hj']; rfl
        rw [e1] at hjn
        have hn2 : cs[acc[j]!]!.nm = nm := by simpa [isNm] using hjn
        have hm : acc[j]! ∈ acc := List.mem_of_getElem? (get!_some hj')
        have hu := check_unique h (hacc _ hm)
        rw [hn2, eK] at hu
        have : K = acc[j]! := by omega
        rw [this]; exact hm
    · intro hm
      rcases find_spec (acc.map fun p => cs[p]!) nm with ⟨e, hno⟩ | ⟨j, hj, ej, _⟩
      · obtain ⟨j, hj⟩ := List.getElem?_of_mem hm
        have hj' : j < acc.length := (List.getElem?_eq_some_iff.1 hj).1
        have e1 : (acc.map fun p => cs[p]!)[j]! = cs[K]! := by
          rw [List.getElem!_eq_getElem?_getD, List.getElem?_map, hj]; rfl
        have := hno j (by simpa using hj')
        rw [e1, hnm] at this
        cases this
      · omega
/- What the places are where none of the names is refused. -/
theorem places_all {cs : List Cl} : ∀ (ns : List ByteArray) (acc : List Nat), places cs ns acc = [] ∨ places cs ns acc = acc ++ ns.map fun nm => (findC cs nm).toNat
  | [], acc => .inr (by simp [places])
  | nm :: r, acc => by
    unfold places
    split
    · exact .inl rfl
    · rcases places_all r (acc ++ [(findC cs nm).toNat]) with h | h
      · exact .inl h
      · exact .inr (by rw [h]; simp)
end Go.Proofs.Ytaccindmjaejdaa
