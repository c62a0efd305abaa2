/-
  A table's bytes with one turned, cut, or with something behind are no table's.
-/
import Derived.Test.YtjfholofgohcjaaQParse
import Derived.Test.YtjfholofgohcjaaQCrcTurn
namespace Go.Proofs.Ytjfholofgohcjaa
open Go.RowKit Go.Sort

theorem set_ne {l : List UInt8} {k : Nat} {x y : UInt8} (hx : l[k]? = some x) (hne : y ≠ x) : l.set k y ≠ l := by
  intro e
  have hk : k < l.length := (List.getElem?_eq_some_iff.1 hx).1
  have : (l.set k y)[k]? = some y := by simp [hk]
  rw [e, hx] at this
  injection this with this
  exact hne this.symm
theorem frame_len (b : List UInt8) : (frame b).length = b.length + 8 := by unfold frame; rw [List.length_append, List.length_append, len4, len4]; omega
theorem frame_set {b b' : List UInt8} {k : Nat} {x y : UInt8} (hx : (frame b)[k]? = some x) (hne : y ≠ x) (h : frame b' = (frame b).set k y) : False := by
  have hl : b'.length = b.length := by have := congrArg List.length h; rw [List.length_set, frame_len, frame_len] at this; omega
  unfold frame at h hx
  rw [hl] at h
  rw [List.set_append] at h
  split at h
  · rename_i hk
    have h1 := (List.append_inj h (by rw [List.length_set])).1
    rw [List.getElem?_append_left hk] at hx
    exact set_ne hx hne h1.symm
  · rename_i hk
    rw [List.getElem?_append_right (by omega)] at hx
    generalize k - (bigB (b.length : Int) 4).length = i at h hx
    have h1 := (List.append_inj h rfl).2
    rw [List.set_append] at h1
    split at h1
    · rename_i hi
      rw [List.getElem?_append_left hi] at hx
      obtain ⟨h2, h3⟩ := List.append_inj h1 (by rw [List.length_set, hl])
      have h4 := congrArg numB h3
      rw [numB_u, numB_u] at h4
      have h5 := u_inj h4
      rw [h2] at h5
      exact more_turned hx hne h5
    · rename_i hi
      rw [List.getElem?_append_right (by omega)] at hx
      obtain ⟨h2, h3⟩ := List.append_inj h1 hl
      rw [h2] at h3
      exact set_ne hx hne h3.symm
theorem big4_inj {n m : Nat} (hn : n < 4294967296) (hm : m < 4294967296) (h : bigB (n : Int) 4 = bigB (m : Int) 4) : n = m := by
  have h1 := congrArg numB h
  have p4 : (256 : Int) ^ 4 = 4294967296 := by decide
  rw [numB_bigB (by decide) (by omega) (by rw [p4]; omega), numB_bigB (by decide) (by omega) (by rw [p4]; omega)] at h1
  omega
theorem frame_take {b : List UInt8} : (frame b).take 4 = bigB (b.length : Int) 4 := take4' (len4 _)
theorem decS_frame {xs : List UInt8} {cs : List Cl} {rs : List Rw} (h : decS xs = some (cs, rs)) : ∃ b, frame b = xs ∧ b.length < 4294967296 := by
  unfold decS at h
  split at h
  · cases h
  · rename_i b hb; exact ⟨b, bodyS_back hb⟩
theorem dec_not {xs : List UInt8} (h : ∀ b, b.length < 4294967296 → frame b ≠ xs) : decS xs = none := by
  cases hd : decS xs with
  | none => rfl
  | some t => obtain ⟨cs, rs⟩ := t; obtain ⟨b, h1, h2⟩ := decS_frame hd; exact absurd h1 (h b h2)
theorem enc_turned {cs : List Cl} {rs : List Rw} {k : Nat} {x y : UInt8} (hx : (encB cs rs)[k]? = some x) (hne : y ≠ x) : decS ((encB cs rs).set k y) = none :=
  dec_not fun _ _ h => frame_set (b := bodyB cs rs) hx hne h
theorem enc_cut {cs : List Cl} {rs : List Rw} {m : Nat} (hl : (bodyB cs rs).length ≤ 4300000) (hm : m < (encB cs rs).length) : decS ((encB cs rs).take m) = none :=
  dec_not fun b hb h => by
    have h0 := congrArg List.length h
    rw [frame_len, List.length_take, encB_len] at h0
    rw [encB_len] at hm
    have h1 := congrArg (List.take 4) h
    rw [frame_take, List.take_take, Nat.min_eq_left (by omega), encB_frame, frame_take] at h1
    have := big4_inj hb (by omega) h1
    omega
theorem enc_more {cs : List Cl} {rs : List Rw} {y : UInt8} (hl : (bodyB cs rs).length ≤ 4300000) : decS (encB cs rs ++ [y]) = none :=
  dec_not fun b hb h => by
    have h0 := congrArg List.length h
    rw [frame_len, List.length_append, encB_len] at h0
    have h1 := congrArg (List.take 4) h
    rw [frame_take, List.take_append_of_le_length (by rw [encB_len]; omega), encB_frame, frame_take] at h1
    have := big4_inj hb (by omega) h1
    simp at h0
    omega
end Go.Proofs.Ytjfholofgohcjaa
