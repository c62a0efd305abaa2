/-
  Names, and how many streams each has: the plain facts behind StreamsRoom.
-/
import Derived.Test.YtnjeocjachmbkaaQXStay
namespace Go.Proofs.Ytnjeocjachmbkaa
open Go.RowKit Go.Sort Go.Maps

def inN (a : List ByteArray) (nm : ByteArray) : Bool := a.any fun x => decide (x = nm)
theorem inN_iff {a : List ByteArray} {nm : ByteArray} : inN a nm = true ↔ nm ∈ a := by
  unfold inN
  rw [List.any_eq_true]
  constructor
  · rintro ⟨x, hx, h⟩
    have := of_decide_eq_true h
    subst this; exact hx
  · intro h; exact ⟨nm, h, by simp⟩
def addN (a : List ByteArray) (nm : ByteArray) : List ByteArray := if inN a nm then a else a ++ [nm]
def namesL (L : List Sm) : List ByteArray := L.foldl (fun a s => addN a s.nm) []
theorem namesL_snoc (L : List Sm) (s : Sm) : namesL (L ++ [s]) = addN (namesL L) s.nm := by unfold namesL; rw [List.foldl_append]; rfl
theorem addN_nodup {a : List ByteArray} {nm : ByteArray} (h : a.Nodup) : (addN a nm).Nodup := by
  unfold addN
  split
  · exact h
  · rename_i hn
    rw [inN_iff] at hn
    rw [List.nodup_append]
    exact ⟨h, by simp, fun x hx y hy => by simp at hy; subst hy; exact fun e => hn (e ▸ hx)⟩
theorem addN_mem {a : List ByteArray} {nm x : ByteArray} : x ∈ addN a nm ↔ x ∈ a ∨ x = nm := by
  unfold addN
  split
  · rename_i h
    rw [inN_iff] at h
    constructor
    · exact .inl
    · rintro (h' | rfl)
      · exact h'
      · exact h
  · simp
theorem addN_len (a : List ByteArray) (nm : ByteArray) : (addN a nm).length ≤ a.length + 1 := by unfold addN; split <;> simp
theorem foldN_nodup : ∀ (L : List Sm) (a : List ByteArray), a.Nodup → (L.foldl (fun a s => addN a s.nm) a).Nodup
  | [], _, h => h
  | s :: r, a, h => foldN_nodup r (addN a s.nm) (addN_nodup h)
theorem namesL_nodup (L : List Sm) : (namesL L).Nodup := foldN_nodup L [] List.nodup_nil
theorem foldN_mem : ∀ (L : List Sm) (a : List ByteArray) (x : ByteArray), (x ∈ a ∨ ∃ s ∈ L, s.nm = x) → x ∈ L.foldl (fun a s => addN a s.nm) a
  | [], _, _, h => by rcases h with h | ⟨s, hs, _⟩; exact h; cases hs
  | s :: r, a, x, h => by
    refine foldN_mem r (addN a s.nm) x ?_
    rcases h with h | ⟨t, ht, he⟩
    · exact .inl (addN_mem.2 (.inl h))
    · rcases List.mem_cons.1 ht with rfl | ht
      · exact .inl (addN_mem.2 (.inr he.symm))
      · exact .inr ⟨t, ht, he⟩
theorem namesL_mem {L : List Sm} {s : Sm} (h : s ∈ L) : s.nm ∈ namesL L := foldN_mem L [] _ (.inr ⟨s, h, rfl⟩)
theorem foldN_len : ∀ (L : List Sm) (a : List ByteArray), (L.foldl (fun a s => addN a s.nm) a).length ≤ a.length + L.length
  | [], a => by simp
  | s :: r, a => by
    have h1 := foldN_len r (addN a s.nm)
    have h2 := addN_len a s.nm
    simp only [List.foldl_cons, List.length_cons]; omega
theorem namesL_len (L : List Sm) : (namesL L).length ≤ L.length := by have := foldN_len L []; simpa [namesL] using this
theorem foldl_sub (most : Int) : ∀ (L acc : List Sm) (x : Sm), x ∈ L.foldl (addL most) acc → x ∈ acc ∨ x ∈ L
  | [], _, _, h => .inl h
  | s :: r, acc, x, h => by
    rcases foldl_sub most r _ x h with h | h
    · unfold addL at h
      split at h
      · rcases List.mem_append.1 h with h | h
        · exact .inl h
        · simp at h; subst h; exact .inr (List.mem_cons_self ..)
      · exact .inl h
    · exact .inr (List.mem_cons_of_mem _ h)
theorem dictL_sub {most : Int} {L : List Sm} {x : Sm} (h : x ∈ dictL most L) : x ∈ L := by
  rcases foldl_sub most L [] x h with h | h
  · cases h
  · exact h
/- The numbers of a name. -/
theorem ofL_get {nm : ByteArray} : ∀ {i : Nat} {F : List Sm} {j : Nat} {x : Int}, (ofL nm i F)[j]? = some x → ∃ k : Nat, x = ((i + k : Nat) : Int) ∧ ∃ s, F[k]? = some s ∧ s.nm = nm
  | _, [], _, _, h => by simp [ofL] at h
  | i, y :: r, j, x, h => by
    unfold ofL at h
    split at h
    · rename_i hy
      cases j with
      | zero => simp at h; exact ⟨0, by omega, y, rfl, hy⟩
      | succ j =>
        obtain ⟨k, hk, s, hs, hn⟩ := ofL_get (i := i + 1) (F := r) (j := j) (x := x) (by simpa using h)
        exact ⟨k + 1, by omega, s, by simpa using hs, hn⟩
    · obtain ⟨k, hk, s, hs, hn⟩ := ofL_get (i := i + 1) (F := r) h
      exact ⟨k + 1, by omega, s, by simpa using hs, hn⟩
theorem ofL_up {nm : ByteArray} : ∀ {i : Nat} {F : List Sm} {j : Nat} {x y : Int}, (ofL nm i F)[j]? = some x → (ofL nm i F)[j + 1]? = some y → x < y
  | _, [], _, _, _, h, _ => by simp [ofL] at h
  | i, z :: r, j, x, y, h, h2 => by
    unfold ofL at h h2
    split at h
    · rename_i hz
      rw [if_pos hz] at h2
      cases j with
      | zero =>
        simp at h h2
        obtain ⟨k, hk, -⟩ := ofL_get h2
        omega
      | succ j => exact ofL_up (i := i + 1) (F := r) (j := j) (by simpa using h) (by simpa using h2)
    · rename_i hz
      rw [if_neg hz] at h2
      exact ofL_up h h2
def sumN (F : List Sm) (N : List ByteArray) : Nat := (N.map fun nm => (ofL nm 0 F).length).sum
theorem sumN_snoc (F : List Sm) (N : List ByteArray) (nm : ByteArray) : sumN F (N ++ [nm]) = sumN F N + (ofL nm 0 F).length := by simp [sumN]
theorem ofL_cons_len (nm : ByteArray) (i : Nat) (y : Sm) (r : List Sm) : (ofL nm i (y :: r)).length = (if y.nm = nm then 1 else 0) + (ofL nm (i + 1) r).length := by
  show (if y.nm = nm then (i : Int) :: ofL nm (i + 1) r else ofL nm (i + 1) r).length = _
  split <;> simp <;> omega
theorem ofL_len_i (nm : ByteArray) : ∀ (i j : Nat) (F : List Sm), (ofL nm i F).length = (ofL nm j F).length
  | _, _, [] => rfl
  | i, j, y :: r => by rw [ofL_cons_len, ofL_cons_len, ofL_len_i nm (i + 1) (j + 1) r]
theorem one_of {y : ByteArray} : ∀ {N : List ByteArray}, N.Nodup → y ∈ N → (N.map fun nm => if y = nm then 1 else 0).sum = 1
  | [], _, h => by cases h
  | a :: r, hn, h => by
    rw [List.nodup_cons] at hn
    rw [List.map_cons, List.sum_cons]
    by_cases e : y = a
    · subst e
      have : ∀ {r : List ByteArray}, y ∉ r → (r.map fun nm => if y = nm then 1 else 0).sum = 0 := by
        intro r
        induction r with
        | nil => intro _; rfl
        | cons b q ih =>
          intro hb
          rw [List.map_cons, List.sum_cons, ih (fun h => hb (List.mem_cons_of_mem _ h)), if_neg (fun e => hb (by rw [e]; exact List.mem_cons_self ..))]
      rw [this hn.1]; simp
    · rw [if_neg e, one_of hn.2 (by rcases List.mem_cons.1 h with h | h; exact absurd h e; exact h)]
theorem sumN_all {N : List ByteArray} (hn : N.Nodup) : ∀ {F : List Sm}, (∀ s ∈ F, s.nm ∈ N) → sumN F N = F.length
  | [], _ => by
    unfold sumN
    induction N with
    | nil => rfl
    | cons a r ih => rw [List.map_cons, List.sum_cons, ih (List.nodup_cons.1 hn).2 (fun _ h => by cases h)]; rfl
  | y :: r, h => by
    have ih := sumN_all hn (F := r) (fun s hs => h s (List.mem_cons_of_mem _ hs))
    have e : sumN (y :: r) N = (N.map fun nm => if y.nm = nm then 1 else 0).sum + sumN r N := by
      unfold sumN
      clear ih h hn
      induction N with
      | nil => rfl
      | cons a q ih =>
        rw [List.map_cons, List.sum_cons, List.map_cons, List.sum_cons, List.map_cons, List.sum_cons, ih, ofL_cons_len, ofL_len_i a (0 + 1) 0 r]
        omega
    rw [e, one_of hn (h y (List.mem_cons_self ..)), ih, List.length_cons]
    omega
theorem sumN_le {F : List Sm} {N : List ByteArray} (hn : N.Nodup) (h : ∀ s ∈ F, s.nm ∈ N) (k : Nat) : sumN F (N.take k) ≤ F.length := by
  have h1 := sumN_all hn h
  have h2 : sumN F N = sumN F (N.take k) + sumN F (N.drop k) := by
    unfold sumN
    rw [← List.sum_append_nat, ← List.map_append, List.take_append_drop]
  omega
theorem dict_room {M : Int} : ∀ (L acc : List Sm), (acc.length : Int) ≤ max 0 M → ((L.foldl (addL M) acc).length : Int) ≤ max 0 M
  | [], _, h => h
  | s :: r, acc, h => by
    refine dict_room r (addL M acc s) ?_
    unfold addL
    split
    · rename_i hc
      simp only [Bool.and_eq_true, Bool.not_eq_true', fullB, decide_eq_false_iff_not] at hc
      rw [List.length_append]
      simp only [List.length_cons, List.length_nil]
      omega
    · exact h
theorem dictL_room {M : Int} (L : List Sm) : ((dictL M L).length : Int) ≤ max 0 M := dict_room L [] (by simp; omega)
end Go.Proofs.Ytnjeocjachmbkaa
