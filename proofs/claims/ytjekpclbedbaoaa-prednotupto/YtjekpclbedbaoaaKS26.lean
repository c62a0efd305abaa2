/-
  A stable sort in place, as mathematics: rows are functions of places to tags.
  The rows that come first, as mathematics.
-/
import Derived.Test.YtjekpclbedbaoaaKS13
namespace Go.Proofs.Ytjekpclbedbaoaa.SS

/- f' is f, its places between a and b turned about. -/
def Pm (a b : Nat) (f f' : Nat → Nat) : Prop := ∃ s t : Nat → Nat, (∀ i, s (t i) = i) ∧ (∀ i, t (s i) = i) ∧ (∀ i, i < a ∨ b ≤ i → s i = i) ∧ ∀ i, f' i = f (s i)
theorem Pm.refl (a b : Nat) (f : Nat → Nat) : Pm a b f f := ⟨id, id, fun _ => rfl, fun _ => rfl, fun _ _ => rfl, fun _ => rfl⟩
theorem Pm.trans {a b : Nat} {f g h : Nat → Nat} (h1 : Pm a b f g) (h2 : Pm a b g h) : Pm a b f h := by
  obtain ⟨s, t, a1, a2, a3, a4⟩ := h1
  obtain ⟨s', t', b1, b2, b3, b4⟩ := h2
  exact ⟨fun i => s (s' i), fun i => t' (t i), fun i => by show s (s' (t' (t i))) = i; rw [b1, a1], fun i => by show t' (t (s (s' i))) = i; rw [a2, b2], fun i hi => by show s (s' i) = i; rw [b3 i hi, a3 i hi], fun i => by rw [b4, a4]⟩
theorem Pm.mono {a b a' b' : Nat} {f g : Nat → Nat} (h : Pm a b f g) (h1 : a' ≤ a) (h2 : b ≤ b') : Pm a' b' f g := by
  obtain ⟨s, t, a1, a2, a3, a4⟩ := h
  exact ⟨s, t, a1, a2, fun i hi => a3 i (by omega), a4⟩
theorem Pm.out {a b : Nat} {f g : Nat → Nat} (h : Pm a b f g) (i : Nat) (hi : i < a ∨ b ≤ i) : g i = f i := by
  obtain ⟨s, t, a1, a2, a3, a4⟩ := h
  rw [a4, a3 i hi]
theorem Pm.mem {a b : Nat} {f g : Nat → Nat} (h : Pm a b f g) (i : Nat) (h1 : a ≤ i) (h2 : i < b) : ∃ j, a ≤ j ∧ j < b ∧ g i = f j := by
  obtain ⟨s, t, a1, a2, a3, a4⟩ := h
  refine ⟨s i, ?_, ?_, a4 i⟩
  · apply Decidable.byContradiction; intro hc
    have := a3 (s i) (by omega)
    have h3 : s i = i := by have := congrArg t this; rwa [a2, a2] at this
    omega
  · apply Decidable.byContradiction; intro hc
    have := a3 (s i) (by omega)
    have h3 : s i = i := by have := congrArg t this; rwa [a2, a2] at this
    omega
def inj (f : Nat → Nat) : Prop := ∀ i j, f i = f j → i = j
theorem Pm.inj {a b : Nat} {f g : Nat → Nat} (h : Pm a b f g) (hf : inj f) : inj g := by
  obtain ⟨s, t, a1, a2, a3, a4⟩ := h
  intro i j e
  rw [a4, a4] at e
  have := congrArg t (hf _ _ e)
  rwa [a2, a2] at this
/- Two places exchanged. -/
def sw (i j : Nat) (f : Nat → Nat) (k : Nat) : Nat := if k = i then f j else if k = j then f i else f k
def sx (i j k : Nat) : Nat := if k = i then j else if k = j then i else k
theorem sx_sx (i j k : Nat) : sx i j (sx i j k) = k := by
  unfold sx
  by_cases h1 : k = i
  · subst h1
    by_cases h2 : j = k
    · subst h2; simp
    · simp [h2]
  · by_cases h2 : k = j
    · subst h2; simp [h1]
    · simp [h1, h2]
theorem sw_sx (i j : Nat) (f : Nat → Nat) (k : Nat) : sw i j f k = f (sx i j k) := by
  unfold sw sx
  by_cases h1 : k = i
  · simp [h1]
  · by_cases h2 : k = j
    · subst h2; simp [h1]
    · simp [h1, h2]
theorem Pm.sw {a b i j : Nat} (f : Nat → Nat) (hi : a ≤ i ∧ i < b) (hj : a ≤ j ∧ j < b) : Pm a b f (sw i j f) :=
  ⟨sx i j, sx i j, sx_sx i j, sx_sx i j, fun k hk => by
    unfold sx
    rw [if_neg (by omega), if_neg (by omega)], sw_sx i j f⟩
/- n places from a on exchanged with those from b on. -/
def swR (a b n : Nat) (f : Nat → Nat) (k : Nat) : Nat := if a ≤ k ∧ k < a + n then f (b + (k - a)) else if b ≤ k ∧ k < b + n then f (a + (k - b)) else f k
theorem swR_zero (a b : Nat) (f : Nat → Nat) : swR a b 0 f = f := by
  funext k; unfold swR; rw [if_neg (by omega), if_neg (by omega)]
theorem swR_succ {a b n i : Nat} (f : Nat → Nat) (hd : a + n ≤ b) (hi : i < n) : sw (a + i) (b + i) (swR a b i f) = swR a b (i + 1) f := by
  funext k
  unfold sw
  by_cases h1 : k = a + i
  · subst h1
    rw [if_pos rfl]
    unfold swR
    rw [if_neg (by omega), if_neg (by omega), if_pos (by omega)]
    congr 1; omega
  · rw [if_neg h1]
    by_cases h2 : k = b + i
    · subst h2
      rw [if_pos rfl]
      unfold swR
      rw [if_neg (by omega), if_neg (by omega), if_neg (by omega), if_pos (by omega)]
      congr 1; omega
    · rw [if_neg h2]
      unfold swR
      by_cases h3 : a ≤ k ∧ k < a + i
      · rw [if_pos h3, if_pos (by omega)]
      · rw [if_neg h3, if_neg (c := a ≤ k ∧ k < a + (i + 1)) (by omega)]
        by_cases h4 : b ≤ k ∧ k < b + i
        · rw [if_pos h4, if_pos (by omega)]
        · rw [if_neg h4, if_neg (by omega)]
/- The places from a to m behind those from m to b. -/
def rot (a m b : Nat) (f : Nat → Nat) (k : Nat) : Nat := if a ≤ k ∧ k < a + (b - m) then f (k + (m - a)) else if a + (b - m) ≤ k ∧ k < b then f (k - (b - m)) else f k
theorem rot_left {m i j : Nat} (f : Nat → Nat) (h : j < i) (hi : i ≤ m) : rot (m - i + j) m (m + j) (swR (m - i) m j f) = rot (m - i) m (m + j) f := by
  funext k
  unfold rot
  by_cases h1 : k < m - i ∨ m + j ≤ k
  · rw [if_neg (by omega), if_neg (by omega), if_neg (by omega), if_neg (by omega)]
    unfold swR; rw [if_neg (by omega), if_neg (by omega)]
  · by_cases h2 : k < m - i + j
    · rw [if_neg (by omega), if_neg (by omega), if_pos (by omega)]
      unfold swR; rw [if_pos (by omega)]
      congr 1; omega
    · by_cases h3 : k < m - i + j + j
      · rw [if_pos (by omega), if_neg (by omega), if_pos (by omega)]
        unfold swR; rw [if_neg (by omega), if_pos (by omega)]
        congr 1 <;> omega
      · rw [if_neg (by omega), if_pos (by omega), if_neg (by omega), if_pos (by omega)]
        unfold swR; rw [if_neg (by omega), if_neg (by omega)]
theorem rot_right {m i j : Nat} (f : Nat → Nat) (h : i < j) (hi : i ≤ m) : rot (m - i) m (m + (j - i)) (swR (m - i) (m + j - i) i f) = rot (m - i) m (m + j) f := by
  funext k
  unfold rot
  by_cases h1 : k < m - i ∨ m + j ≤ k
  · rw [if_neg (by omega), if_neg (by omega), if_neg (by omega), if_neg (by omega)]
    unfold swR; rw [if_neg (by omega), if_neg (by omega)]
  · by_cases h2 : m + j - i ≤ k
    · rw [if_neg (by omega), if_neg (by omega), if_neg (by omega), if_pos (by omega)]
      unfold swR; rw [if_neg (by omega), if_pos (by omega)]
      congr 1; omega
    · by_cases h3 : k < m - i + (j - i)
      · rw [if_pos (by omega), if_pos (by omega)]
        unfold swR; rw [if_neg (by omega), if_neg (by omega)]
      · rw [if_neg (by omega), if_pos (by omega), if_pos (by omega)]
        unfold swR; rw [if_pos (by omega)]
        congr 1; omega
theorem rot_same {m i : Nat} (f : Nat → Nat) (hi : i ≤ m) : swR (m - i) m i f = rot (m - i) m (m + i) f := by
  funext k
  unfold rot swR
  by_cases h1 : m - i ≤ k ∧ k < m - i + i
  · rw [if_pos h1, if_pos (by omega)]; congr 1; omega
  · rw [if_neg h1, if_neg (c := m - i ≤ k ∧ k < m - i + (m + i - m)) (by omega)]
    by_cases h2 : m ≤ k ∧ k < m + i
    · rw [if_pos h2, if_pos (by omega)]; congr 1; omega
    · rw [if_neg h2, if_neg (by omega)]
def rx (a m b k : Nat) : Nat := if a ≤ k ∧ k < a + (b - m) then k + (m - a) else if a + (b - m) ≤ k ∧ k < b then k - (b - m) else k
theorem rot_rx (a m b : Nat) (f : Nat → Nat) (k : Nat) : rot a m b f k = f (rx a m b k) := by
  unfold rot rx; split
  · rfl
  · split <;> rfl
theorem rx_rx {a m b : Nat} (h1 : a ≤ m) (h2 : m ≤ b) (k : Nat) : rx a m b (rx a (a + (b - m)) b k) = k := by
  unfold rx
  by_cases g1 : k < a ∨ b ≤ k
  · rw [if_neg (c := a ≤ k ∧ k < a + (b - (a + (b - m)))) (by omega), if_neg (c := a + (b - (a + (b - m))) ≤ k ∧ k < b) (by omega), if_neg (by omega), if_neg (by omega)]
  · by_cases g2 : k < m
    · rw [if_pos (c := a ≤ k ∧ k < a + (b - (a + (b - m)))) (by omega), if_neg (by omega), if_pos (by omega)]; omega
    · rw [if_neg (c := a ≤ k ∧ k < a + (b - (a + (b - m)))) (by omega), if_pos (c := a + (b - (a + (b - m))) ≤ k ∧ k < b) (by omega), if_pos (by omega)]; omega
theorem Pm.rot {a m b : Nat} (f : Nat → Nat) (h1 : a ≤ m) (h2 : m ≤ b) : Pm a b f (rot a m b f) :=
  ⟨rx a m b, rx a (a + (b - m)) b, rx_rx h1 h2, fun k => by
    have := rx_rx (a := a) (m := a + (b - m)) (b := b) (by omega) (by omega) k
    rwa [show a + (b - (a + (b - m))) = m by omega] at this, fun k hk => by unfold rx; rw [if_neg (by omega), if_neg (by omega)], rot_rx a m b f⟩

/- A comparison of tags. -/
structure Cm (c : Nat → Nat → Int) : Prop where
  neg : ∀ x y, c y x = - c x y
  tr : ∀ x y z, c x y ≤ 0 → c y z ≤ 0 → c x z ≤ 0
/- Ahead: by the comparison, then by the tag. -/
def lt (c : Nat → Nat → Int) (x y : Nat) : Prop := c x y < 0 ∨ (c x y = 0 ∧ x < y)
theorem Cm.self {c : Nat → Nat → Int} (h : Cm c) (x : Nat) : c x x = 0 := by have := h.neg x x; omega
theorem lt_trans {c : Nat → Nat → Int} (h : Cm c) {x y z : Nat} (h1 : lt c x y) (h2 : lt c y z) : lt c x z := by
  unfold lt at *
  have a1 := h.tr x y z
  have a2 := h.tr z x y
  have a3 := h.tr y z x
  have n1 := h.neg x y
  have n2 := h.neg y z
  have n3 := h.neg x z
  omega
theorem lt_or {c : Nat → Nat → Int} (h : Cm c) {x y : Nat} (hne : x ≠ y) : lt c x y ∨ lt c y x := by
  unfold lt; have := h.neg x y; omega
theorem lt_irr {c : Nat → Nat → Int} (h : Cm c) (x : Nat) : ¬ lt c x x := by unfold lt; have := h.self x; omega
theorem lt_asym {c : Nat → Nat → Int} (h : Cm c) {x y : Nat} (h1 : lt c x y) (h2 : lt c y x) : False := lt_irr h x (lt_trans h h1 h2)
/- For a greater tag behind a lesser one the comparison alone tells. -/
theorem lt_of_tags {c : Nat → Nat → Int} (h : Cm c) {x y : Nat} (hxy : x < y) : lt c y x ↔ c y x < 0 := by have := h.neg x y; unfold lt; omega
theorem lt_of_tags' {c : Nat → Nat → Int} (h : Cm c) {x y : Nat} (hxy : x < y) : lt c x y ↔ ¬ c y x < 0 := by unfold lt; have := h.neg x y; omega
/- A stretch that rises. -/
def up (c : Nat → Nat → Int) (f : Nat → Nat) (a b : Nat) : Prop := ∀ i j, a ≤ i → i < j → j < b → lt c (f i) (f j)
/- All of one stretch ahead of all of another. -/
def ahd (c : Nat → Nat → Int) (f : Nat → Nat) (a m b : Nat) : Prop := ∀ i j, a ≤ i → i < m → m ≤ j → j < b → lt c (f i) (f j)
/- All tags of one stretch less than all of another. -/
def tg (f : Nat → Nat) (a m b : Nat) : Prop := ∀ i j, a ≤ i → i < m → m ≤ j → j < b → f i < f j
theorem up_join {c : Nat → Nat → Int} {f : Nat → Nat} {a m b : Nat} (h1 : up c f a m) (h2 : up c f m b) (h3 : ahd c f a m b) : up c f a b := by
  intro i j hi hij hj
  by_cases g1 : j < m
  · exact h1 i j hi hij g1
  · by_cases g2 : i < m
    · exact h3 i j hi g2 (by omega) hj
    · exact h2 i j (by omega) hij hj
theorem up_same {c : Nat → Nat → Int} {f g : Nat → Nat} {a b : Nat} (h : up c f a b) (he : ∀ i, a ≤ i → i < b → g i = f i) : up c g a b := by
  intro i j hi hij hj; rw [he i hi (by omega), he j (by omega) hj]; exact h i j hi hij hj
theorem tg_same {f g : Nat → Nat} {a m b : Nat} (h : tg f a m b) (he : ∀ i, a ≤ i → i < b → g i = f i) : tg g a m b := by
  intro i j hi him hj hjb; rw [he i hi (by omega), he j (by omega) hjb]; exact h i j hi him hj hjb
theorem up_sub {c : Nat → Nat → Int} {f : Nat → Nat} {a b a' b' : Nat} (h : up c f a b) (h1 : a ≤ a') (h2 : b' ≤ b) : up c f a' b' := fun i j hi hij hj => h i j (by omega) hij (by omega)
/- What the search for the cut leaves. -/
structure Cut (c : Nat → Nat → Int) (f : Nat → Nat) (a m b mid st : Nat) : Prop where
  lo : a ≤ st ∧ mid + m - b ≤ st
  hi : st ≤ m ∧ st ≤ mid
  left : a < st → mid + m - b < st → lt c (f (st - 1)) (f (mid + m - st))
  right : st < m → st < mid → lt c (f (mid + m - st - 1)) (f st)
/- Behind the turning, and the two halves sorted by themselves, all is sorted. -/
theorem sym_done {c : Nat → Nat → Int} (hc : Cm c) {f g : Nat → Nat} {a m b mid st : Nat} (h1 : up c f a m) (h2 : up c f m b) (hx : Cut c f a m b mid st)
    (hg : ∃ g1, Pm a mid (rot st m (mid + m - st) f) g1 ∧ Pm mid b g1 g ∧ up c g a mid ∧ up c g mid b) : up c g a b := by
  obtain ⟨g1, p1, p2, u1, u2⟩ := hg
  obtain ⟨⟨l1, l2⟩, ⟨i1, i2⟩, hl, hr⟩ := hx
  have key : ahd c (rot st m (mid + m - st) f) a mid b := by
    intro i j hi him hj hjb
    -- where the two come from
    have e1 : rot st m (mid + m - st) f i = if i < st then f i else f (i + (m - st)) := by
      unfold rot
      by_cases q : i < st
      · rw [if_pos q, if_neg (by omega), if_neg (by omega)]
      · rw [if_neg q, if_pos (by omega)]
    have e2 : rot st m (mid + m - st) f j = if j < mid + m - st then f (j - (mid - st)) else f j := by
      unfold rot
      by_cases q : j < mid + m - st
      · rw [if_pos q, if_neg (by omega), if_pos (by omega)]
        congr 1; omega
      · rw [if_neg q, if_neg (by omega), if_neg (by omega)]
    rw [e1, e2]
    by_cases q1 : i < st
    · rw [if_pos q1]
      by_cases q2 : j < mid + m - st
      · rw [if_pos q2]; exact h1 _ _ hi (by omega) (by omega)
      · rw [if_neg q2]
        have a1 := hl (by omega) (by omega)
        have a2 : f i = f (st - 1) ∨ lt c (f i) (f (st - 1)) := by
          by_cases z : i = st - 1
          · exact Or.inl (by rw [z])
          · exact Or.inr (h1 _ _ hi (by omega) (by omega))
        have a3 : f j = f (mid + m - st) ∨ lt c (f (mid + m - st)) (f j) := by
          by_cases z : j = mid + m - st
          · exact Or.inl (by rw [z])
          · exact Or.inr (h2 _ _ (by omega) (by omega) hjb)
        have a4 : lt c (f i) (f (mid + m - st)) := by
          rcases a2 with e | e
          · rw [e]; exact a1
          · exact lt_trans hc e a1
        rcases a3 with e | e
        · rw [e]; exact a4
        · exact lt_trans hc a4 e
    · rw [if_neg q1]
      by_cases q2 : j < mid + m - st
      · rw [if_pos q2]
        have a1 := hr (by omega) (by omega)
        have a2 : f (i + (m - st)) = f (mid + m - st - 1) ∨ lt c (f (i + (m - st))) (f (mid + m - st - 1)) := by
          by_cases z : i + (m - st) = mid + m - st - 1
          · exact Or.inl (by rw [z])
          · exact Or.inr (h2 _ _ (by omega) (by omega) (by omega))
        have a3 : f (j - (mid - st)) = f st ∨ lt c (f st) (f (j - (mid - st))) := by
          by_cases z : j - (mid - st) = st
          · exact Or.inl (by rw [z])
          · exact Or.inr (h1 _ _ (by omega) (by omega) (by omega))
        have a4 : lt c (f (i + (m - st))) (f st) := by
          rcases a2 with e | e
          · rw [e]; exact a1
          · exact lt_trans hc e a1
        rcases a3 with e | e
        · rw [e]; exact a4
        · exact lt_trans hc a4 e
      · rw [if_neg q2]; exact h2 _ _ (by omega) (by omega) hjb
  refine up_join u1 u2 ?_
  intro i j hi him hj hjb
  have w1 : g i = g1 i := p2.out i (Or.inl him)
  obtain ⟨i', hi1, hi2, e1⟩ := p1.mem i hi him
  obtain ⟨j', hj1, hj2, e2⟩ := p2.mem j hj hjb
  have e3 := p1.out j' (Or.inr hj1)
  rw [w1, e1, e2, e3]
  exact key i' j' hi1 hi2 hj1 hj2
/- The two halves behind the turning. -/
theorem half_left {c : Nat → Nat → Int} {f : Nat → Nat} {a m b mid st : Nat} (hst : a ≤ st ∧ st ≤ m ∧ st ≤ mid) (hmb : mid + m - st ≤ b) (h1 : up c f a m) (h2 : up c f m b) (ht : tg f a m b) : up c (rot st m (mid + m - st) f) a st ∧ up c (rot st m (mid + m - st) f) st mid ∧ tg (rot st m (mid + m - st) f) a st mid := by
  have e1 : ∀ i, a ≤ i → i < st → rot st m (mid + m - st) f i = f i := fun i _ h => by unfold rot; rw [if_neg (by omega), if_neg (by omega)]
  have e2 : ∀ i, st ≤ i → i < mid → rot st m (mid + m - st) f i = f (i + (m - st)) := fun i h h' => by unfold rot; rw [if_pos (by omega)]
  refine ⟨fun i j hi hij hj => ?_, fun i j hi hij hj => ?_, fun i j hi him hj hjb => ?_⟩
  · rw [e1 i hi (by omega), e1 j (by omega) hj]; exact h1 _ _ hi hij (by omega)
  · rw [e2 i hi (by omega), e2 j (by omega) hj]; exact h2 _ _ (by omega) (by omega) (by omega)
  · rw [e1 i hi him, e2 j hj hjb]; exact ht _ _ hi (by omega) (by omega) (by omega)
theorem half_right {c : Nat → Nat → Int} {f : Nat → Nat} {a m b mid st : Nat} (ha : a ≤ m) (hst : a ≤ st ∧ st ≤ m ∧ st ≤ mid) (h1 : up c f a m) (h2 : up c f m b) (ht : tg f a m b) : up c (rot st m (mid + m - st) f) mid (mid + m - st) ∧ up c (rot st m (mid + m - st) f) (mid + m - st) b ∧ tg (rot st m (mid + m - st) f) mid (mid + m - st) b := by
  have e1 : ∀ i, mid ≤ i → i < mid + m - st → rot st m (mid + m - st) f i = f (i - (mid - st)) := fun i h h' => by
    unfold rot; rw [if_neg (by omega), if_pos (by omega)]; congr 1; omega
  have e2 : ∀ i, mid + m - st ≤ i → rot st m (mid + m - st) f i = f i := fun i h => by unfold rot; rw [if_neg (by omega), if_neg (by omega)]
  refine ⟨fun i j hi hij hj => ?_, fun i j hi hij hj => ?_, fun i j hi him hj hjb => ?_⟩
  · rw [e1 i hi (by omega), e1 j (by omega) hj]; exact h1 _ _ (by omega) (by omega) (by omega)
  · rw [e2 i hi, e2 j (by omega)]; exact h2 _ _ (by omega) (by omega) (by omega)
  · rw [e1 i hi him, e2 j hj]; exact ht _ _ (by omega) (by omega) (by omega) (by omega)
/- One element moved over others. -/
theorem rot_up {a k : Nat} (f : Nat → Nat) (hk : a ≤ k) : sw k (k + 1) (rot a (a + 1) (k + 1) f) = rot a (a + 1) (k + 2) f := by
  funext x
  unfold sw rot
  by_cases h1 : x = k
  · subst h1; rw [if_pos rfl, if_neg (by omega), if_neg (by omega), if_pos (by omega)]; congr 1; omega
  · rw [if_neg h1]
    by_cases h2 : x = k + 1
    · subst h2; rw [if_pos rfl, if_neg (by omega), if_pos (by omega), if_neg (by omega), if_pos (by omega)]; congr 1; omega
    · rw [if_neg h2]
      by_cases h3 : a ≤ x ∧ x < a + (k + 1 - (a + 1))
      · rw [if_pos h3, if_pos (by omega)]
      · rw [if_neg h3, if_neg (by omega), if_neg (by omega), if_neg (by omega)]
theorem rot_id (a m : Nat) (f : Nat → Nat) : rot a m m f = f := by
  funext x; unfold rot
  rw [if_neg (by omega)]
  by_cases h : a + (m - m) ≤ x ∧ x < m
  · rw [if_pos h, Nat.sub_self, Nat.sub_zero]
  · rw [if_neg h]
theorem rot_id' (m b : Nat) (f : Nat → Nat) : rot m m b f = f := by
  funext x; unfold rot
  by_cases h : m ≤ x ∧ x < m + (b - m)
  · rw [if_pos h]; congr 1; omega
  · rw [if_neg h, if_neg (by omega)]
theorem rot_down {m k : Nat} (f : Nat → Nat) (hk : 0 < k) (hm : k ≤ m) : sw k (k - 1) (rot k m (m + 1) f) = rot (k - 1) m (m + 1) f := by
  funext x
  unfold sw rot
  by_cases h1 : x = k
  · subst h1; rw [if_pos rfl, if_neg (by omega), if_neg (by omega), if_neg (by omega), if_pos (by omega)]; congr 1; omega
  · rw [if_neg h1]
    by_cases h2 : x = k - 1
    · subst h2; rw [if_pos rfl, if_pos (by omega), if_pos (by omega)]; congr 1; omega
    · rw [if_neg h2]
      by_cases h3 : k + 1 ≤ x ∧ x < m + 1
      · rw [if_neg (by omega), if_pos (by omega), if_neg (by omega), if_pos (by omega)]
      · rw [if_neg (by omega), if_neg (by omega), if_neg (by omega), if_neg (by omega)]
theorem ins_up {c : Nat → Nat → Int} (hc : Cm c) {f : Nat → Nat} {a b i : Nat} (h : up c f (a + 1) b) (hi : a + 1 ≤ i) (hib : i ≤ b) (h1 : a + 1 < i → lt c (f (i - 1)) (f a)) (h2 : i < b → lt c (f a) (f i)) : up c (rot a (a + 1) i f) a b := by
  have e1 : ∀ x, a ≤ x → x < i - 1 → rot a (a + 1) i f x = f (x + 1) := fun x h h' => by unfold rot; rw [if_pos (by omega)]; congr 1; omega
  have e2 : rot a (a + 1) i f (i - 1) = f a := by unfold rot; rw [if_neg (by omega), if_pos (by omega)]; congr 1; omega
  have e3 : ∀ x, i ≤ x → rot a (a + 1) i f x = f x := fun x h => by unfold rot; rw [if_neg (by omega), if_neg (by omega)]
  have lo : ∀ x, a + 1 ≤ x → x < i → lt c (f x) (f a) := fun x hx hxi => by
    by_cases z : x = i - 1
    · rw [z]; exact h1 (by omega)
    · exact lt_trans hc (h x (i - 1) hx (by omega) (by omega)) (h1 (by omega))
  have hi' : ∀ x, i ≤ x → x < b → lt c (f a) (f x) := fun x hx hxb => by
    by_cases z : x = i
    · rw [z]; exact h2 (by omega)
    · exact lt_trans hc (h2 (by omega)) (h i x (by omega) (by omega) hxb)
  intro x y hx hxy hy
  by_cases g1 : x < i - 1
  · rw [e1 x hx g1]
    by_cases g2 : y < i - 1
    · rw [e1 y (by omega) g2]; exact h _ _ (by omega) (by omega) (by omega)
    · by_cases g3 : y = i - 1
      · rw [g3, e2]; exact lo _ (by omega) (by omega)
      · rw [e3 y (by omega)]; exact lt_trans hc (lo _ (by omega) (by omega)) (hi' y (by omega) hy)
  · by_cases g2 : x = i - 1
    · rw [g2, e2, e3 y (by omega)]; exact hi' y (by omega) hy
    · rw [e3 x (by omega), e3 y (by omega)]; exact h _ _ (by omega) (by omega) hy
theorem ins_down {c : Nat → Nat → Int} (hc : Cm c) {f : Nat → Nat} {a m i : Nat} (h : up c f a m) (hi : a ≤ i) (him : i ≤ m) (h1 : a < i → lt c (f (i - 1)) (f m)) (h2 : i < m → lt c (f m) (f i)) : up c (rot i m (m + 1) f) a (m + 1) := by
  have e1 : ∀ x, x < i → rot i m (m + 1) f x = f x := fun x h => by unfold rot; rw [if_neg (by omega), if_neg (by omega)]
  have e2 : rot i m (m + 1) f i = f m := by unfold rot; rw [if_pos (by omega)]; congr 1; omega
  have e3 : ∀ x, i < x → x < m + 1 → rot i m (m + 1) f x = f (x - 1) := fun x h h' => by unfold rot; rw [if_neg (by omega), if_pos (by omega)]; congr 1; omega
  have lo : ∀ x, a ≤ x → x < i → lt c (f x) (f m) := fun x hx hxi => by
    by_cases z : x = i - 1
    · rw [z]; exact h1 (by omega)
    · exact lt_trans hc (h x (i - 1) hx (by omega) (by omega)) (h1 (by omega))
  have hi' : ∀ x, i ≤ x → x < m → lt c (f m) (f x) := fun x hx hxb => by
    by_cases z : x = i
    · rw [z]; exact h2 (by omega)
    · exact lt_trans hc (h2 (by omega)) (h i x (by omega) (by omega) hxb)
  intro x y hx hxy hy
  by_cases g1 : x < i
  · rw [e1 x g1]
    by_cases g2 : y < i
    · rw [e1 y g2]; exact h _ _ (by omega) (by omega) (by omega)
    · by_cases g3 : y = i
      · rw [g3, e2]; exact lo _ (by omega) (by omega)
      · rw [e3 y (by omega) hy]; exact h _ _ (by omega) (by omega) (by omega)
  · by_cases g2 : x = i
    · rw [g2, e2, e3 y (by omega) hy]; exact hi' _ (by omega) (by omega)
    · rw [e3 x (by omega) (by omega), e3 y (by omega) hy]; exact h _ _ (by omega) (by omega) (by omega)
/- A stretch that is sorted and has its own tags. -/
def good (c : Nat → Nat → Int) (f : Nat → Nat) (a b : Nat) : Prop := up c f a b ∧ ∀ i, a ≤ i → i < b → a ≤ f i ∧ f i < b
theorem good_out {c : Nat → Nat → Int} {f g : Nat → Nat} {a b x y : Nat} (h : good c f a b) (hp : Pm x y f g) (hd : b ≤ x ∨ y ≤ a) : good c g a b :=
  ⟨up_same h.1 (fun i h1 h2 => hp.out i (by omega)), fun i h1 h2 => by rw [hp.out i (by omega)]; exact h.2 i h1 h2⟩
theorem good_nil {c : Nat → Nat → Int} {f : Nat → Nat} {a b : Nat} (h : b ≤ a) : good c f a b := ⟨fun i j h1 h2 h3 => by omega, fun i h1 h2 => by omega⟩
theorem good_tg {c : Nat → Nat → Int} {f : Nat → Nat} {a m b : Nat} (h1 : good c f a m) (h2 : good c f m b) : tg f a m b := fun i j hi him hj hjb => by
  have := (h1.2 i hi him).2
  have := (h2.2 j hj hjb).1
  omega
theorem good_join {c : Nat → Nat → Int} {f g : Nat → Nat} {a m b : Nat} (h1 : good c f a m) (h2 : good c f m b) (hm : a ≤ m) (hb : m ≤ b) (hp : Pm a b f g) (hu : up c g a b) : good c g a b := by
  refine ⟨hu, fun i hi hib => ?_⟩
  obtain ⟨j, hj1, hj2, e⟩ := hp.mem i hi hib
  rw [e]
  by_cases q : j < m
  · have := h1.2 j hj1 q; omega
  · have := h2.2 j (by omega) hj2; omega
/- A pass over blocks of bs each: those ahead of a are laid together by twos. -/
structure Pass (c : Nat → Nat → Int) (f : Nat → Nat) (bs n a : Nat) : Prop where
  ok : a ≤ n
  dv : 2 * bs ∣ a
  done : ∀ x, 2 * bs ∣ x → x < a → good c f x (x + 2 * bs)
  left : ∀ x, bs ∣ x → a ≤ x → good c f x (min (x + bs) n)
def Blocks (c : Nat → Nat → Int) (f : Nat → Nat) (bs n : Nat) : Prop := ∀ x, bs ∣ x → good c f x (min (x + bs) n)
theorem Pass.start {c : Nat → Nat → Int} {f : Nat → Nat} {bs n : Nat} (h : Blocks c f bs n) : Pass c f bs n 0 := ⟨Nat.zero_le _, ⟨0, rfl⟩, fun x _ h => by omega, fun x hx _ => h x hx⟩
theorem dv_two {bs a : Nat} (h : 2 * bs ∣ a) : bs ∣ a := Nat.dvd_trans ⟨2, Nat.mul_comm _ _⟩ h
theorem dv_add {bs a : Nat} (h : bs ∣ a) : bs ∣ a + bs := Nat.dvd_add h (Nat.dvd_refl _)
theorem dv_lt {d x a : Nat} (hx : d ∣ x) (ha : d ∣ a) (h : x < a + d) (hne : ¬ x < a) : x = a := by
  obtain ⟨q, rfl⟩ := hx
  obtain ⟨r, rfl⟩ := ha
  have h1 : d * q < d * (r + 1) := by rw [Nat.mul_add]; omega
  have h2 : q < r + 1 := Nat.lt_of_mul_lt_mul_left h1
  have h3 : d * r ≤ d * q := by omega
  rcases Nat.lt_or_ge q r with h4 | h4
  · have h5 : d * (q + 1) ≤ d * r := Nat.mul_le_mul_left d h4
    rw [Nat.mul_add] at h5
    have : d = 0 := by omega
    subst this; simp
  · have : q = r := by omega
    rw [this]
theorem Pass.two {c : Nat → Nat → Int} {f g : Nat → Nat} {bs n a : Nat} (h : Pass c f bs n a) (hb : a + 2 * bs ≤ n) (hp : Pm a (a + 2 * bs) f g) (hu : up c g a (a + 2 * bs)) : Pass c g bs n (a + 2 * bs) := by
  have g1 : good c f a (a + bs) := by have := h.left a (dv_two h.dv) (Nat.le_refl _); rwa [Nat.min_eq_left (by omega)] at this
  have g2 : good c f (a + bs) (a + 2 * bs) := by have := h.left (a + bs) (dv_add (dv_two h.dv)) (by omega); rwa [Nat.min_eq_left (by omega), show a + bs + bs = a + 2 * bs by omega] at this
  refine ⟨hb, dv_add h.dv, fun x hx hxa => ?_, fun x hx hxa => ?_⟩
  · by_cases q : x < a
    · have hle : x + 2 * bs ≤ a := by
        apply Decidable.byContradiction; intro hc
        have := dv_lt h.dv hx (by omega) (by omega)
        omega
      exact good_out (h.done x hx q) hp (Or.inl hle)
    · have := dv_lt hx h.dv (by omega) q
      subst this
      exact good_join g1 g2 (by omega) (by omega) hp hu
  · exact good_out (h.left x hx (by omega)) hp (Or.inr hxa)
theorem Pass.last {c : Nat → Nat → Int} {f g : Nat → Nat} {bs n a : Nat} (h : Pass c f bs n a) (hb : n < a + 2 * bs) (hm : a + bs < n) (hp : Pm a n f g) (hu : up c g a n) : Blocks c g (2 * bs) n := by
  have g1 : good c f a (a + bs) := by have := h.left a (dv_two h.dv) (Nat.le_refl _); rwa [Nat.min_eq_left (by omega)] at this
  have g2 : good c f (a + bs) n := by have := h.left (a + bs) (dv_add (dv_two h.dv)) (by omega); rwa [Nat.min_eq_right (by omega)] at this
  intro x hx
  by_cases q : x < a
  · have hle : x + 2 * bs ≤ a := by
      apply Decidable.byContradiction; intro hc
      have := dv_lt h.dv hx (by omega) (by omega)
      omega
    rw [Nat.min_eq_left (by omega)]
    exact good_out (h.done x hx q) hp (Or.inl hle)
  · by_cases q2 : x < a + 2 * bs
    · have := dv_lt hx h.dv q2 q
      subst this
      rw [Nat.min_eq_right (by omega)]
      exact good_join g1 g2 (by omega) (by omega) hp hu
    · exact good_nil (by omega)
theorem Pass.none {c : Nat → Nat → Int} {f : Nat → Nat} {bs n a : Nat} (h : Pass c f bs n a) (hb : n < a + 2 * bs) (hm : n ≤ a + bs) : Blocks c f (2 * bs) n := by
  intro x hx
  by_cases q : x < a
  · have hle : x + 2 * bs ≤ a := by
      apply Decidable.byContradiction; intro hc
      have := dv_lt h.dv hx (by omega) (by omega)
      omega
    have := h.ok
    rw [Nat.min_eq_left (by omega)]
    exact h.done x hx q
  · by_cases q2 : x < a + 2 * bs
    · have := dv_lt hx h.dv q2 q
      subst this
      have := h.left x (dv_two h.dv) (Nat.le_refl _)
      rw [Nat.min_eq_right (by omega)] at this ⊢
      exact this
    · exact good_nil (by omega)
theorem Pass.tags {c : Nat → Nat → Int} {f : Nat → Nat} {bs n a b : Nat} (h : Pass c f bs n a) (hm : a + bs ≤ b) (hb : b = a + 2 * bs ∧ b ≤ n ∨ b = n ∧ n < a + 2 * bs) : up c f a (a + bs) ∧ up c f (a + bs) b ∧ tg f a (a + bs) b := by
  have g1 : good c f a (a + bs) := by have := h.left a (dv_two h.dv) (Nat.le_refl _); rwa [Nat.min_eq_left (by omega)] at this
  have g2 : good c f (a + bs) b := by have := h.left (a + bs) (dv_add (dv_two h.dv)) (by omega); rwa [show min (a + bs + bs) n = b by omega] at this
  exact ⟨g1.1, g2.1, good_tg g1 g2⟩
/- The first pass: blocks sorted one by one. -/
structure First (c : Nat → Nat → Int) (f : Nat → Nat) (bs n a : Nat) : Prop where
  ok : a ≤ n
  dv : bs ∣ a
  done : ∀ x, bs ∣ x → x < a → good c f x (x + bs)
  left : ∀ i, a ≤ i → f i = i
theorem First.start (c : Nat → Nat → Int) (bs n : Nat) : First c id bs n 0 := ⟨Nat.zero_le _, ⟨0, rfl⟩, fun x _ h => by omega, fun i _ => rfl⟩
theorem First.one {c : Nat → Nat → Int} {f g : Nat → Nat} {bs n a : Nat} (h : First c f bs n a) (hb : a + bs ≤ n) (hp : Pm a (a + bs) f g) (hu : up c g a (a + bs)) : First c g bs n (a + bs) := by
  refine ⟨hb, dv_add h.dv, fun x hx hxa => ?_, fun i hi => by rw [hp.out i (by omega)]; exact h.left i (by omega)⟩
  by_cases q : x < a
  · have hle : x + bs ≤ a := by
      apply Decidable.byContradiction; intro hc
      have := dv_lt h.dv hx (by omega) (by omega)
      omega
    exact good_out (h.done x hx q) hp (Or.inl hle)
  · have := dv_lt hx h.dv (by omega) q
    subst this
    refine ⟨hu, fun i hi hib => ?_⟩
    obtain ⟨j, h1, h2, e⟩ := hp.mem i hi hib
    rw [e, h.left j h1]; exact ⟨h1, h2⟩
theorem First.last {c : Nat → Nat → Int} {f g : Nat → Nat} {bs n a : Nat} (h : First c f bs n a) (hb : n < a + bs) (hp : Pm a n f g) (hu : up c g a n) : Blocks c g bs n := by
  intro x hx
  by_cases q : x < a
  · have hle : x + bs ≤ a := by
      apply Decidable.byContradiction; intro hc
      have := dv_lt h.dv hx (by omega) (by omega)
      omega
    have := h.ok
    rw [Nat.min_eq_left (by omega)]
    exact good_out (h.done x hx q) hp (Or.inl hle)
  · by_cases q2 : x < a + bs
    · have := dv_lt hx h.dv q2 q
      subst this
      rw [Nat.min_eq_right (by omega)]
      refine ⟨hu, fun i hi hib => ?_⟩
      obtain ⟨j, h1, h2, e⟩ := hp.mem i hi hib
      rw [e, h.left j h1]; exact ⟨h1, h2⟩
    · exact good_nil (by omega)
theorem First.tags {c : Nat → Nat → Int} {f : Nat → Nat} {bs n a : Nat} (h : First c f bs n a) : ∀ i j, a ≤ i → i < j → f i < f j := fun i j hi hij => by rw [h.left i hi, h.left j (by omega)]; exact hij
theorem Blocks.all {c : Nat → Nat → Int} {f : Nat → Nat} {bs n : Nat} (h : Blocks c f bs n) (hb : n ≤ bs) : good c f 0 n := by
  have := h 0 ⟨0, rfl⟩
  rwa [Nat.min_eq_right (by omega)] at this
end Go.Proofs.Ytjekpclbedbaoaa.SS
namespace Go.Proofs.Ytjekpclbedbaoaa.RO
open Go.RowKit

def v0 : TN.Vl := ⟨0, 0, ⟨#[]⟩, 0, 0, 0, 0, 0, 0, 0, 0, by decide⟩
def key (p : Nat) (r : TN.Rw) : TN.Vl := r.getD p v0
/- A row comes no later than another: by a greater value in a column, then by canonical order. -/
def LeT (p : Nat) (x y : TN.Rw) : Prop := TN.cmpL (key p y) (key p x) < 0 ∨ (TN.cmpL (key p y) (key p x) = 0 ∧ TN.cmpR x y ≤ 0)
instance (p : Nat) (x y : TN.Rw) : Decidable (LeT p x y) := by unfold LeT; infer_instance
def leT (p : Nat) (x y : TN.Rw) : Bool := decide (LeT p x y)
theorem cmpR_self (x : TN.Rw) : TN.cmpR x x = 0 := (TN.cmpR_zero x x).2 rfl
theorem leT_trans {p : Nat} {x y z : TN.Rw} (h1 : LeT p x y) (h2 : LeT p y z) : LeT p x z := by
  unfold LeT at *
  obtain ⟨a, b, c, d, e, f, g⟩ := TN.tri_cmpL (key p z) (key p y) (key p x)
  rcases h1 with h1 | ⟨h1, h1'⟩
  · rcases h2 with h2 | ⟨h2, h2'⟩
    · left; omega
    · left; omega
  · rcases h2 with h2 | ⟨h2, h2'⟩
    · left; omega
    · right; exact ⟨by omega, TN.cmpR_trans h1' h2'⟩
theorem leT_total (p : Nat) (x y : TN.Rw) : LeT p x y ∨ LeT p y x := by
  unfold LeT
  have h1 := TN.neg_cmpL (key p x) (key p y)
  have h2 := TN.neg_cmpR x y
  omega
theorem leT_anti {p : Nat} {x y : TN.Rw} (h1 : LeT p x y) (h2 : LeT p y x) : x = y := by
  unfold LeT at *
  have e1 := TN.neg_cmpL (key p x) (key p y)
  have e2 := TN.neg_cmpR x y
  exact (TN.cmpR_zero x y).1 (by omega)
theorem leT_refl (p : Nat) (x : TN.Rw) : LeT p x x := by rcases leT_total p x x with h | h <;> exact h
/- All rows, those that come first ahead. -/
def topL (p : Nat) (l : List TN.Rw) : List TN.Rw := l.mergeSort (leT p)
theorem topL_perm (p : Nat) (l : List TN.Rw) : (topL p l).Perm l := List.mergeSort_perm _ _
theorem topL_up (p : Nat) (l : List TN.Rw) : (topL p l).Pairwise (LeT p) := by
  have := List.pairwise_mergeSort (le := leT p) (fun a b c h1 h2 => by unfold leT at *; simp only [decide_eq_true_eq] at *; exact leT_trans h1 h2) (fun a b => by unfold leT; simp only [Bool.or_eq_true, decide_eq_true_eq]; exact leT_total p a b) l
  exact this.imp fun h => by unfold leT at h; simpa using h
theorem top_unique {p : Nat} {l m : List TN.Rw} (h : l.Pairwise (LeT p)) (hp : l.Perm m) : l = topL p m :=
  List.Perm.eq_of_pairwise (le := LeT p) (fun _ _ _ _ h1 h2 => leT_anti h1 h2) h (topL_up p m) (hp.trans (topL_perm p m).symm)
theorem topL_length (p : Nat) (l : List TN.Rw) : (topL p l).length = l.length := (topL_perm p l).length_eq
theorem topL_perm_eq {p : Nat} {l m : List TN.Rw} (h : l.Perm m) : topL p l = topL p m := top_unique (topL_up p l) ((topL_perm p l).trans h)

/- Tags of a canonical row of rows. -/
def row (S : List TN.Rw) (i : Nat) : TN.Rw := S.getD i []
def cAt (p : Nat) (S : List TN.Rw) (i j : Nat) : Int := TN.cmpL (key p (row S j)) (key p (row S i))
theorem cAt_cm (p : Nat) (S : List TN.Rw) : SS.Cm (cAt p S) where
  neg x y := TN.neg_cmpL _ _
  tr x y z h1 h2 := by
    unfold cAt at *
    obtain ⟨a, b, c, d, e, f, g⟩ := TN.tri_cmpL (key p (row S z)) (key p (row S y)) (key p (row S x))
    omega
theorem row_get {S : List TN.Rw} {i : Nat} (h : i < S.length) : row S i = S[i] := by unfold row; rw [List.getD_eq_getElem?_getD, List.getElem?_eq_getElem h]; rfl
theorem lt_le {p : Nat} {S : List TN.Rw} (hS : TN.upR S) {i j : Nat} (hi : i < S.length) (hj : j < S.length) (h : SS.lt (cAt p S) i j) : LeT p (row S i) (row S j) := by
  rcases h with h | ⟨h, hij⟩
  · exact Or.inl h
  · refine Or.inr ⟨h, ?_⟩
    rw [row_get hi, row_get hj]
    exact List.pairwise_iff_getElem.1 hS i j hi hj hij
theorem map_row (S : List TN.Rw) : (List.range S.length).map (row S) = S := by
  apply List.ext_getElem?
  intro i
  rw [List.getElem?_map]
  by_cases h : i < S.length
  · rw [List.getElem?_range h, List.getElem?_eq_getElem h, Option.map_some, row_get h]
  · rw [List.getElem?_eq_none (by simp; omega), List.getElem?_eq_none (by omega)]; rfl
theorem pm_perm {n : Nat} {g : Nat → Nat} (h : SS.Pm 0 n id g) : ((List.range n).map g).Perm (List.range n) := by
  have hi : SS.inj g := h.inj (fun i j e => e)
  refine (List.perm_ext_iff_of_nodup ?_ List.nodup_range).2 (fun a => ?_)
  · rw [List.nodup_iff_pairwise_ne, List.pairwise_map]
    exact (List.nodup_iff_pairwise_ne.1 List.nodup_range).imp (fun hne e => hne (hi _ _ e))
  · obtain ⟨s, t, a1, a2, a3, a4⟩ := h
    constructor
    · intro ha
      obtain ⟨i, h1, rfl⟩ := List.mem_map.1 ha
      have h2 : i < n := List.mem_range.1 h1
      obtain ⟨j, h3, h4, h5⟩ := SS.Pm.mem ⟨s, t, a1, a2, a3, a4⟩ i (Nat.zero_le _) h2
      rw [h5]; exact List.mem_range.2 h4
    · intro ha
      have ha' : a < n := List.mem_range.1 ha
      refine List.mem_map.2 ⟨t a, List.mem_range.2 ?_, by rw [a4, a1]; rfl⟩
      apply Decidable.byContradiction; intro hc
      have h3 := a3 (t a) (by omega)
      rw [a1] at h3
      omega
/- What the stable sort leaves of a canonical row of rows. -/
theorem sorted_top {p : Nat} {S : List TN.Rw} (hS : TN.upR S) {g : Nat → Nat} (hp : SS.Pm 0 S.length id g) (hu : SS.up (cAt p S) g 0 S.length) : (List.range S.length).map (fun i => row S (g i)) = topL p S := by
  have hg : ∀ i, i < S.length → g i < S.length := fun i hi => by obtain ⟨j, _, h2, h3⟩ := hp.mem i (Nat.zero_le _) hi; rw [h3]; exact h2
  refine top_unique ?_ ?_
  · rw [List.pairwise_map, List.pairwise_iff_getElem]
    intro i j hi hj hij
    rw [List.getElem_range, List.getElem_range]
    simp only [List.length_range] at hi hj
    exact lt_le hS (hg i hi) (hg j hj) (hu i j (Nat.zero_le _) hij hj)
  · have h := (pm_perm hp).map (row S)
    rw [List.map_map, map_row] at h
    exact h
/- The reference takes the best one away, again and again: o taken, q left, both as tags. -/
structure Sel (p : Nat) (S : List TN.Rw) (o q : List Nat) : Prop where
  perm : (o ++ q).Perm (List.range S.length)
  up : o.Pairwise (SS.lt (cAt p S))
  ahead : ∀ a ∈ o, ∀ b ∈ q, SS.lt (cAt p S) a b
  rise : q.Pairwise (· < ·)
theorem Sel.start (p : Nat) (S : List TN.Rw) : Sel p S [] (List.range S.length) := ⟨List.Perm.refl _, List.Pairwise.nil, fun a ha => absurd ha (by simp), List.pairwise_lt_range⟩
theorem Sel.next {p : Nat} {S : List TN.Rw} {o q : List Nat} (h : Sel p S o q) {b x : Nat} (hb : q[b]? = some x) (hx : ∀ y ∈ q, y ≠ x → SS.lt (cAt p S) x y) : Sel p S (o ++ [x]) (q.take b ++ q.drop (b + 1)) := by
  obtain ⟨hbl, hbx⟩ := List.getElem?_eq_some_iff.1 hb
  have hq : q = q.take b ++ x :: q.drop (b + 1) := by rw [← hbx, ← List.drop_eq_getElem_cons hbl, List.take_append_drop]
  have hmem : x ∈ q := List.mem_of_getElem? hb
  have hr := h.rise
  rw [hq] at hr
  obtain ⟨r1, r2, r3⟩ := List.pairwise_append.1 hr
  obtain ⟨r4, r5⟩ := List.pairwise_cons.1 r2
  have hne : ∀ y ∈ q.take b ++ q.drop (b + 1), y ∈ q ∧ y ≠ x := fun y hy => by
    rcases List.mem_append.1 hy with h1 | h1
    · exact ⟨List.mem_of_mem_take h1, fun e => by have := r3 y h1 x (by simp); omega⟩
    · exact ⟨List.mem_of_mem_drop h1, fun e => by have := r4 y h1; omega⟩
  refine ⟨?_, ?_, ?_, ?_⟩
  · refine List.Perm.trans ?_ h.perm
    rw [List.append_assoc]
    refine List.Perm.append_left o ?_
    conv => rhs; rw [hq]
    exact (List.perm_middle (a := x) (l₁ := q.take b) (l₂ := q.drop (b + 1))).symm
  · rw [List.pairwise_append]
    exact ⟨h.up, List.pairwise_singleton _ _, fun a ha c hc => by rw [List.mem_singleton.1 hc]; exact h.ahead a ha x hmem⟩
  · intro a ha c hc
    obtain ⟨h1, h2⟩ := hne c hc
    rcases List.mem_append.1 ha with h3 | h3
    · exact h.ahead a h3 c h1
    · rw [List.mem_singleton.1 h3]; exact hx c h1 h2
  · rw [List.pairwise_append]
    exact ⟨r1, r5, fun a ha c hc => r3 a ha c (by simp [hc])⟩
theorem Sel.done {p : Nat} {S : List TN.Rw} {o q : List Nat} (hS : TN.upR S) (h : Sel p S o q) : (topL p S).take o.length = o.map (row S) := by
  have hm : ∀ a ∈ o ++ q, a < S.length := fun a ha => List.mem_range.1 (h.perm.mem_iff.1 ha)
  have e : o.map (row S) ++ topL p (q.map (row S)) = topL p S := by
    refine top_unique ?_ ?_
    · rw [List.pairwise_append]
      refine ⟨?_, topL_up _ _, fun a ha c hc => ?_⟩
      · rw [List.pairwise_map]
        refine List.Pairwise.imp_of_mem (fun {a b} ha hb hab => lt_le hS (hm a (by simp [ha])) (hm b (by simp [hb])) hab) h.up
      · obtain ⟨i, hi, rfl⟩ := List.mem_map.1 ha
        obtain ⟨j, hj, rfl⟩ := List.mem_map.1 ((topL_perm p _).mem_iff.1 hc)
        exact lt_le hS (hm i (by simp [hi])) (hm j (by simp [hj])) (h.ahead i hi j hj)
    · have h1 : (o.map (row S) ++ topL p (q.map (row S))).Perm (o.map (row S) ++ q.map (row S)) := List.Perm.append_left _ (topL_perm _ _)
      rw [← List.map_append] at h1
      have h2 := h.perm.map (row S)
      rw [map_row] at h2
      exact h1.trans h2
  rw [← e, List.take_append_of_le_length (by simp), List.take_of_length_le (by simp)]
/- What Top tells. -/
def topR (p n : Nat) (rs : List TN.Rw) : List TN.Rw := TN.sortR ((topL p rs).take n)
theorem topR_sort (p n : Nat) (rs : List TN.Rw) : topR p n (TN.sortR rs) = topR p n rs := by unfold topR; rw [topL_perm_eq (TN.sortR_perm rs)]
end Go.Proofs.Ytjekpclbedbaoaa.RO
