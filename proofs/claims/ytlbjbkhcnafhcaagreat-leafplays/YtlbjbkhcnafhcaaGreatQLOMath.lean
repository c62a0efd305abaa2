/-
  The first of each schema, keys and time among points: where no two of one key differ it does not matter in which order they came.
-/
import Derived.Test.YtlbjbkhcnafhcaaGreatQLRoom
namespace Go.Proofs.YtlbjbkhcnafhcaaGreat
open Go.RowKit

def stP (acc : List Pt) (p : Pt) : List Pt := if hasP acc p then acc else acc ++ [p]
def fstP (L : List Pt) : List Pt := L.foldl stP []
theorem fstP_snoc (L : List Pt) (p : Pt) : fstP (L ++ [p]) = stP (fstP L) p := by unfold fstP; rw [List.foldl_append]; rfl
theorem stP_len (acc : List Pt) (p : Pt) : (stP acc p).length ≤ acc.length + 1 := by unfold stP; split <;> simp
theorem fold_len : ∀ (L acc : List Pt), (L.foldl stP acc).length ≤ acc.length + L.length
  | [], acc => by simp
  | p :: L, acc => by
    have h1 := fold_len L (stP acc p)
    have h2 := stP_len acc p
    simp only [List.foldl_cons, List.length_cons]; omega
theorem fstP_len (L : List Pt) : (fstP L).length ≤ L.length := by have := fold_len L []; simpa [fstP] using this
/- Where a point is known by its schema, keys and time. -/
def Kyd (L : List Pt) : Prop := ∀ p ∈ L, ∀ q ∈ L, sameP p q = true → p = q
theorem hasP_iff {acc : List Pt} {p : Pt} : hasP acc p = true ↔ ∃ q ∈ acc, sameP p q = true := by simp [hasP]
theorem sameP_refl (p : Pt) : sameP p p = true := by simp [sameP]
theorem fold_mem : ∀ (L acc : List Pt), Kyd (acc ++ L) → ∀ x, x ∈ L.foldl stP acc ↔ x ∈ acc ∨ x ∈ L
  | [], acc, _, x => by simp
  | p :: L, acc, h, x => by
    have hk : Kyd (stP acc p ++ L) := by
      intro a ha b hb
      have up : ∀ y, y ∈ stP acc p ++ L → y ∈ acc ++ p :: L := by
        intro y hy
        rcases List.mem_append.1 hy with hy | hy
        · unfold stP at hy
          split at hy
          · exact List.mem_append.2 (.inl hy)
          · rcases List.mem_append.1 hy with hy | hy
            · exact List.mem_append.2 (.inl hy)
            · simp at hy; subst hy; simp
        · exact List.mem_append.2 (.inr (List.mem_cons_of_mem _ hy))
      exact h a (up a ha) b (up b hb)
    rw [List.foldl_cons, fold_mem L (stP acc p) hk x]
    have e : x ∈ stP acc p ↔ x ∈ acc ∨ x = p := by
      unfold stP
      split
      · rename_i hh
        obtain ⟨q, hq, hs⟩ := hasP_iff.1 hh
        have : p = q := h p (by simp) q (by simp [hq]) hs
        subst this
        constructor
        · exact .inl
        · rintro (hx | rfl)
          · exact hx
          · exact hq
      · simp
    rw [e, List.mem_cons]
    constructor
    · rintro ((h1 | h1) | h1)
      · exact .inl h1
      · exact .inr (.inl h1)
      · exact .inr (.inr h1)
    · rintro (h1 | h1 | h1)
      · exact .inl (.inl h1)
      · exact .inl (.inr h1)
      · exact .inr h1
theorem fstP_mem {L : List Pt} (h : Kyd L) (x : Pt) : x ∈ fstP L ↔ x ∈ L := by have := fold_mem L [] (by simpa using h) x; simpa [fstP] using this
theorem fold_nodup : ∀ (L acc : List Pt), acc.Nodup → (L.foldl stP acc).Nodup
  | [], _, h => h
  | p :: L, acc, h => by
    rw [List.foldl_cons]
    refine fold_nodup L _ ?_
    unfold stP
    split
    · exact h
    · rename_i hh
      rw [List.nodup_append]
      exact ⟨h, by simp, fun a ha b hb => by simp at hb; subst hb; exact fun e => hh (hasP_iff.2 ⟨a, ha, by rw [e]; exact sameP_refl b⟩)⟩
theorem fstP_nodup (L : List Pt) : (fstP L).Nodup := fold_nodup L [] List.nodup_nil
theorem fstP_perm {L M : List Pt} (hL : Kyd L) (hM : Kyd M) (h : ∀ x, x ∈ L ↔ x ∈ M) : (fstP L).Perm (fstP M) :=
  (List.perm_ext_iff_of_nodup (fstP_nodup L) (fstP_nodup M)).2 fun x => by rw [fstP_mem hL, fstP_mem hM, h]
theorem fstP_has {L : List Pt} {p : Pt} (h : Kyd L) (hp : p ∈ L) : hasP (fstP L) p = true := hasP_iff.2 ⟨p, (fstP_mem h p).2 hp, sameP_refl p⟩
/- The statement's points. -/
def pO (x : Nat × Nat) : Pt := ptL ⟨#[UInt8.ofNat (97 + x.1)]⟩ (show 1 ≤ maxLen by decide) (x.2 : Int) (((100 * x.1 + x.2 : Nat)) : Int)
theorem pO_fit {x : Nat × Nat} (h : x.2 < 50) : fitsS [scLoad] (pO x) = 0 := fit_load (s := ⟨#[UInt8.ofNat (97 + x.1)]⟩) _ (show 1 ≤ 64 by decide) (by omega) (by omega) _
theorem byte_inj {a b : Nat} (ha : a < 7) (hb : b < 7) (h : UInt8.ofNat (97 + a) = UInt8.ofNat (97 + b)) : a = b := by
  have := congrArg UInt8.toNat h
  rw [UInt8.toNat_ofNat', UInt8.toNat_ofNat'] at this
  omega
def Ok7 (X : List (Nat × Nat)) : Prop := ∀ x ∈ X, x.1 < 7 ∧ x.2 < 50
theorem pO_kyd {X : List (Nat × Nat)} (h : Ok7 X) : Kyd (X.map pO) := by
  intro p hp q hq hs
  obtain ⟨x, hx, rfl⟩ := List.mem_map.1 hp
  obtain ⟨y, hy, rfl⟩ := List.mem_map.1 hq
  simp only [sameP, decide_eq_true_eq] at hs
  obtain ⟨-, h2, h3⟩ := hs
  have h2' : (y.2 : Int) = (x.2 : Int) := h2
  have h4 : y.1 = x.1 := by
    have h3' : [vStr ⟨#[UInt8.ofNat (97 + y.1)]⟩ (show 1 ≤ maxLen by decide)] = [vStr ⟨#[UInt8.ofNat (97 + x.1)]⟩ (show 1 ≤ maxLen by decide)] := h3
    injection h3' with h5 _
    unfold vStr at h5
    injection h5 with _ _ h6
    injection h6 with h7
    have h8 : [UInt8.ofNat (97 + y.1)] = [UInt8.ofNat (97 + x.1)] := by simpa using congrArg Array.toList h7
    injection h8 with h9 _
    exact byte_inj (h y hy).1 (h x hx).1 h9
  have h5 : y.2 = x.2 := by omega
  have : x = y := Prod.ext h4.symm h5.symm
  rw [this]
/- Turned from some place on. -/
def rotX {α : Type} [Inhabited α] (X : List α) (r : Nat) : List α := (List.range X.length).map fun i => X[(i + r) % X.length]!
theorem rot_len {α : Type} [Inhabited α] (X : List α) (r : Nat) : (rotX X r).length = X.length := by simp [rotX]
theorem rot_get {α : Type} [Inhabited α] {X : List α} {r i : Nat} (h : i < X.length) : (rotX X r)[i]? = some X[(i + r) % X.length]! := by
  unfold rotX
  rw [List.getElem?_map, List.getElem?_range h]; rfl
theorem rot_mem {α : Type} [Inhabited α] {X : List α} {r : Nat} (x : α) : x ∈ rotX X r ↔ x ∈ X := by
  unfold rotX
  simp only [List.mem_map, List.mem_range]
  constructor
  · rintro ⟨i, hi, rfl⟩
    have : (i + r) % X.length < X.length := Nat.mod_lt _ (by omega)
    rw [getElem!_pos X _ this]
    exact List.getElem_mem this
  · intro hx
    obtain ⟨j, hj, rfl⟩ := List.getElem_of_mem hx
    have hn : 0 < X.length := by omega
    refine ⟨(j + (X.length - r % X.length)) % X.length, Nat.mod_lt _ hn, ?_⟩
    have hr : r % X.length < X.length := Nat.mod_lt _ hn
    have e : ((j + (X.length - r % X.length)) % X.length + r) % X.length = j := by
      rw [Nat.mod_add_mod]
      have : j + (X.length - r % X.length) + r = j + X.length + (r - r % X.length) := by have := Nat.mod_le r X.length; omega
      rw [this]
      have h2 : r - r % X.length = X.length * (r / X.length) := by have := Nat.div_add_mod r X.length; omega
      rw [h2, Nat.add_mul_mod_self_left, Nat.add_mod_right, Nat.mod_eq_of_lt hj]
    rw [e, getElem!_pos X j hj]
/- What Write does with such points. -/
theorem wr_pO {pts : List Pt} {x : Nat × Nat} (h : x.2 < 50) (hl : pts.length < 1000) : wrN [scLoad] 1000 pts (pO x) = !hasP pts (pO x) ∧ wrE [scLoad] 1000 pts (pO x) = 0 ∧ wrL [scLoad] 1000 pts (pO x) = stP pts (pO x) := by
  have hf := pO_fit h
  have hlt : (pts.length : Int) < 1000 := by omega
  have h1 : wrN [scLoad] 1000 pts (pO x) = !hasP pts (pO x) := by
    unfold wrN
    rw [decide_eq_true hf, decide_eq_true hlt]; simp
  refine ⟨h1, ?_, ?_⟩
  · unfold wrE
    rw [if_pos hf, if_pos hlt]; simp
  · unfold wrL stP
    rw [h1]
    cases hasP pts (pO x) <;> rfl
theorem fst_fit {X : List (Nat × Nat)} (h : Ok7 X) : ∀ q ∈ fstP (X.map pO), fitsS [scLoad] q = 0 := fun q hq => by
  obtain ⟨x, hx, rfl⟩ := List.mem_map.1 ((fstP_mem (pO_kyd h) q).1 hq)
  exact pO_fit (h x hx).2
theorem scan_100 {X : List (Nat × Nat)} (h : Ok7 X) : (scR [scLoad] (fstP (X.map pO)) nLoad 0 100).length = (fstP (X.map pO)).length := by
  rw [scR_load, sortR_length]
  unfold scanR
  rw [List.length_map, List.filter_eq_self.2]
  intro p hp
  obtain ⟨x, hx, rfl⟩ := List.mem_map.1 ((fstP_mem (pO_kyd h) p).1 hp)
  have := (h x hx).2
  unfold ofP
  rw [decide_eq_true_eq]
  refine ⟨rfl, ?_, ?_⟩
  · show (0 : Int) ≤ (x.2 : Int); omega
  · show (x.2 : Int) ≤ 100; omega
theorem scan_perm {p q : List Pt} (h : p.Perm q) (nm : ByteArray) (a z : Int) : scR [scLoad] p nm a z = scR [scLoad] q nm a z := by
  unfold scR
  split
  · rfl
  · exact sortR_perm_eq ((h.filter _).map _)
theorem rot_scan {X : List (Nat × Nat)} (h : Ok7 X) (r : Nat) : scR [scLoad] (fstP ((rotX X r).map pO)) nLoad 0 100 = scR [scLoad] (fstP (X.map pO)) nLoad 0 100 := by
  have h2 : Ok7 (rotX X r) := fun x hx => h x ((rot_mem x).1 hx)
  refine scan_perm (fstP_perm (pO_kyd h2) (pO_kyd h) fun x => ?_) _ _ _
  simp only [List.mem_map]
  constructor
  · rintro ⟨y, hy, rfl⟩; exact ⟨y, (rot_mem y).1 hy, rfl⟩
  · rintro ⟨y, hy, rfl⟩; exact ⟨y, (rot_mem y).2 hy, rfl⟩
theorem fst_take {X : List (Nat × Nat)} {k : Nat} {x : Nat × Nat} (h : X[k]? = some x) : fstP ((X.take (k + 1)).map pO) = stP (fstP ((X.take k).map pO)) (pO x) := by
  rw [List.take_add_one, h]
  simp only [Option.toList_some, List.map_append, List.map_cons, List.map_nil]
  exact fstP_snoc _ _
end Go.Proofs.YtlbjbkhcnafhcaaGreat
