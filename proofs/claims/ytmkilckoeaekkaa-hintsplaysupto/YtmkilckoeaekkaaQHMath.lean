/-
  Indexes as data: which names are seen, which fingerprint a name and a field have; what may be, node by node. (Pure mathematics of stage 10, of no seat: BMath is wip/Ytmkilckoeaekkaa's.)
-/
import Derived.Test.YtmkilckoeaekkaaQBMath
namespace Go.Proofs.Ytmkilckoeaekkaa

/- What an index tells. -/
structure Ix where
  seen : ByteArray → Bool
  bits : ByteArray → ByteArray → F256
def Ix.none : Ix := ⟨fun _ => false, fun _ _ => 0⟩
def Ix.see (x : Ix) (n : ByteArray) : Ix := ⟨fun m => x.seen m || decide (m = n), x.bits⟩
def Ix.lay (x : Ix) (n f : ByteArray) (b : F256) : Ix := ⟨x.seen, fun m g => if m = n ∧ g = f then x.bits m g ||| b else x.bits m g⟩
def Ix.join (x y : Ix) : Ix := ⟨fun m => x.seen m || y.seen m, fun m g => x.bits m g ||| y.bits m g⟩
/- One tells no more than another. -/
def Ix.le (x y : Ix) : Prop := (∀ m, x.seen m = true → y.seen m = true) ∧ ∀ m g, wit (x.bits m g) (y.bits m g) = true
theorem wit_refl (F : F256) : wit F F = true := wit_iff.2 fun _ _ h => h
theorem wit_trans {F G H : F256} (h1 : wit F G = true) (h2 : wit G H = true) : wit F H = true := wit_iff.2 fun n hn h => wit_iff.1 h2 n hn (wit_iff.1 h1 n hn h)
theorem Ix.le_refl (x : Ix) : x.le x := ⟨fun _ h => h, fun _ _ => wit_refl _⟩
theorem Ix.le_trans {x y z : Ix} (h1 : x.le y) (h2 : y.le z) : x.le z := ⟨fun m h => h2.1 m (h1.1 m h), fun m g => wit_trans (h1.2 m g) (h2.2 m g)⟩
theorem Ix.le_see (x : Ix) (n : ByteArray) : x.le (x.see n) := ⟨fun m h => by simp [Ix.see, h], fun _ _ => wit_refl _⟩
theorem Ix.le_lay (x : Ix) (n f : ByteArray) (b : F256) : x.le (x.lay n f b) := ⟨fun _ h => h, fun m g => by
  show wit (x.bits m g) (if m = n ∧ g = f then x.bits m g ||| b else x.bits m g) = true
  split
  · exact wit_left _ _
  · exact wit_refl _⟩
theorem Ix.le_left (x y : Ix) : x.le (x.join y) := ⟨fun m h => by simp [Ix.join, h], fun _ _ => wit_left _ _⟩
theorem Ix.le_right (x y : Ix) : y.le (x.join y) := ⟨fun m h => by simp [Ix.join, h], fun _ _ => wit_right _ _⟩
theorem Ix.join_comm (x y : Ix) : x.join y = y.join x := by
  unfold Ix.join
  congr 1
  · funext m; exact Bool.or_comm _ _
  · funext m g; exact BitVec.or_comm _ _
theorem Ix.lay_bits (x : Ix) (n f : ByteArray) (b : F256) : wit b ((x.lay n f b).bits n f) = true := by
  show wit b (if n = n ∧ f = f then x.bits n f ||| b else x.bits n f) = true
  rw [if_pos ⟨rfl, rfl⟩]
  exact wit_right _ _
/- A node, as far as Might looks at it: its kind, text, way of comparing, its value's kind and text, and whom it names. -/
structure Nq where
  kind : Int
  s : ByteArray
  how : Int
  vk : Int
  vs : ByteArray
  l : List Int
def bytes (s : ByteArray) : List UInt8 := s.data.toList
def wholeB (s : ByteArray) : F256 := ofS ([1] ++ (bytes s ++ [2]))
def partB (s : ByteArray) : F256 := ofS (bytes s)
structure Kinds where
  and_ : Int
  or_ : Int
  cmp : Int
  has : Int
  eq : Int
  str : Int
/- The two that a node names, if they stand ahead of it. -/
def two (q : Nq) (k : Nat) : Option (Nat × Nat) :=
  match q.l with
  | [a, b] => if 0 ≤ a ∧ a < (k : Int) ∧ 0 ≤ b ∧ b < (k : Int) then some (a.toNat, b.toNat) else none
  | _ => none
def mayOne (K : Kinds) (x : Ix) (nm : ByteArray) (may : List Bool) (q : Nq) : Bool :=
  if q.kind = K.and_ then (match two q may.length with | some (a, b) => may.getD a true && may.getD b true | none => true)
  else if q.kind = K.or_ then (match two q may.length with | some (a, b) => may.getD a true || may.getD b true | none => true)
  else if q.kind = K.cmp then (if q.how = K.eq ∧ q.vk = K.str then wit (wholeB q.vs) (x.bits nm q.s) else true)
  else if q.kind = K.has then wit (partB q.vs) (x.bits nm q.s)
  else true
def mayAll (K : Kinds) (x : Ix) (nm : ByteArray) : List Nq → List Bool → List Bool
  | [], may => may
  | q :: r, may => mayAll K x nm r (may ++ [mayOne K x nm may q])
def mights (K : Kinds) (x : Ix) (nm : ByteArray) (q : List Nq) : List Bool := mayAll K x nm q []
def might (K : Kinds) (x : Ix) (nm : ByteArray) (q : List Nq) (i : Int) : Bool :=
  x.seen nm && (if 0 ≤ i ∧ i < (q.length : Int) then (mights K x nm q).getD i.toNat true else true)
theorem mayAll_len (K : Kinds) (x : Ix) (nm : ByteArray) : ∀ (q : List Nq) (may : List Bool), (mayAll K x nm q may).length = may.length + q.length
  | [], may => rfl
  | q :: r, may => by rw [mayAll, mayAll_len K x nm r]; simp; omega
theorem mayAll_snoc (K : Kinds) (x : Ix) (nm : ByteArray) : ∀ (l : List Nq) (q : Nq) (may : List Bool), mayAll K x nm (l ++ [q]) may = mayAll K x nm l may ++ [mayOne K x nm (mayAll K x nm l may) q]
  | [], q, may => rfl
  | a :: r, q, may => by rw [List.cons_append, mayAll, mayAll, mayAll_snoc K x nm r]
/- The first k nodes alone tell of each of them. -/
theorem mights_take (K : Kinds) (x : Ix) (nm : ByteArray) (q : List Nq) {k : Nat} {a : Nq} (h : q[k]? = some a) : mights K x nm (q.take (k + 1)) = mights K x nm (q.take k) ++ [mayOne K x nm (mights K x nm (q.take k)) a] := by
  unfold mights
  rw [List.take_add_one, h]
  exact mayAll_snoc K x nm _ _ _
theorem mayAll_pre (K : Kinds) (x : Ix) (nm : ByteArray) : ∀ (q : List Nq) (may : List Bool), ∃ t, mayAll K x nm q may = may ++ t
  | [], may => ⟨[], by simp [mayAll]⟩
  | a :: r, may => by
    obtain ⟨t, h⟩ := mayAll_pre K x nm r (may ++ [mayOne K x nm may a])
    exact ⟨mayOne K x nm may a :: t, by rw [mayAll, h]; simp⟩
theorem mayAll_app (K : Kinds) (x : Ix) (nm : ByteArray) : ∀ (l m : List Nq) (may : List Bool), mayAll K x nm (l ++ m) may = mayAll K x nm m (mayAll K x nm l may)
  | [], m, may => rfl
  | a :: r, m, may => by rw [List.cons_append, mayAll, mayAll, mayAll_app K x nm r]
theorem mights_get (K : Kinds) (x : Ix) (nm : ByteArray) (q : List Nq) {i k : Nat} (hi : i < k) (hk : k ≤ q.length) : (mights K x nm q).getD i true = (mights K x nm (q.take k)).getD i true := by
  have h : mights K x nm q = mayAll K x nm (q.drop k) (mights K x nm (q.take k)) := by
    unfold mights
    rw [← mayAll_app, List.take_append_drop]
  obtain ⟨t, ht⟩ := mayAll_pre K x nm (q.drop k) (mights K x nm (q.take k))
  have hl : (mights K x nm (q.take k)).length = k := by unfold mights; rw [mayAll_len]; simp; omega
  rw [h, ht, List.getD_eq_getElem?_getD, List.getD_eq_getElem?_getD, List.getElem?_append_left (by omega)]
/- What may be may still be when an index tells more. -/
def leL (a b : List Bool) : Prop := a.length = b.length ∧ ∀ i, a.getD i true = true → b.getD i true = true
theorem mayOne_mono {K : Kinds} {x y : Ix} (h : x.le y) (nm : ByteArray) {a b : List Bool} (hl : leL a b) (q : Nq) (hq : mayOne K x nm a q = true) : mayOne K y nm b q = true := by
  unfold mayOne at hq ⊢
  rw [hl.1] at hq
  split
  · rename_i h1
    rw [if_pos h1] at hq
    split
    · rename_i i j h2
      rw [h2] at hq
      simp only [Bool.and_eq_true] at hq ⊢
      exact ⟨hl.2 _ hq.1, hl.2 _ hq.2⟩
    · rfl
  · rename_i h1
    rw [if_neg h1] at hq
    split
    · rename_i h2
      rw [if_pos h2] at hq
      split
      · rename_i i j h3
        rw [h3] at hq
        simp only [Bool.or_eq_true] at hq ⊢
        exact hq.imp (hl.2 _) (hl.2 _)
      · rfl
    · rename_i h2
      rw [if_neg h2] at hq
      split
      · rename_i h3
        rw [if_pos h3] at hq
        split
        · rename_i h4
          rw [if_pos h4] at hq
          exact wit_trans hq (h.2 _ _)
        · rfl
      · rename_i h3
        rw [if_neg h3] at hq
        split
        · rename_i h4
          rw [if_pos h4] at hq
          exact wit_trans hq (h.2 _ _)
        · rfl
theorem leL_snoc {a b : List Bool} (h : leL a b) {p q : Bool} (hp : p = true → q = true) : leL (a ++ [p]) (b ++ [q]) := by
  refine ⟨by simp [h.1], fun i hi => ?_⟩
  have h2 := h.2 i
  rw [List.getD_eq_getElem?_getD] at hi h2 ⊢
  rw [List.getD_eq_getElem?_getD] at h2
  by_cases hlt : i < a.length
  · rw [List.getElem?_append_left hlt] at hi
    rw [List.getElem?_append_left (by rw [← h.1]; exact hlt)]
    exact h2 hi
  · by_cases he : i = a.length
    · subst he
      rw [List.getElem?_append_right (Nat.le_refl _)] at hi
      rw [h.1, List.getElem?_append_right (Nat.le_refl _)]
      simp at hi ⊢
      exact hp hi
    · rw [List.getElem?_eq_none (by simp; have := h.1; omega)]; rfl
theorem mayAll_mono {K : Kinds} {x y : Ix} (h : x.le y) (nm : ByteArray) : ∀ (q : List Nq) (a b : List Bool), leL a b → leL (mayAll K x nm q a) (mayAll K y nm q b)
  | [], _, _, hl => hl
  | q :: r, _, _, hl => mayAll_mono h nm r _ _ (leL_snoc hl (mayOne_mono h nm hl q))
theorem might_mono {K : Kinds} {x y : Ix} (h : x.le y) (nm : ByteArray) (q : List Nq) (i : Int) (hm : might K x nm q i = true) : might K y nm q i = true := by
  unfold might at hm ⊢
  simp only [Bool.and_eq_true] at hm ⊢
  refine ⟨h.1 _ hm.1, ?_⟩
  have hm2 := hm.2
  split
  · rename_i hi
    rw [if_pos hi] at hm2
    exact (mayAll_mono h nm q [] [] ⟨rfl, fun _ h => h⟩).2 _ hm2
  · rfl
end Go.Proofs.Ytmkilckoeaekkaa
