/-
  Each node of a query is named by just one behind it, but for the last.
-/
import Derived.Test.YtomnjckbgmbgmaaGreatDoorQGMath
namespace Go.Proofs.YtomnjckbgmbgmaaGreatDoor

/- An error is none of number 0. -/
def Bd {α : Type} (r : Rs α) : Prop := ∀ j c, r = .bad j c → ¬ c = 0
theorem Bd.ok {α : Type} (x : α) (i : Nat) : Bd (.ok x i) := fun _ _ h => by cases h
theorem Bd.b2 {α : Type} (i : Nat) : Bd (.bad i 2 : Rs α) := fun _ _ h => by cases h; decide
theorem Bd.b120 {α : Type} (i : Nat) : Bd (.bad i 120 : Rs α) := fun _ _ h => by cases h; decide
theorem Bd.and {α β : Type} {r : Rs α} {f : α → Nat → Rs β} (h : Bd r) (hf : ∀ x i, Bd (f x i)) : Bd (r.and f) := by
  cases r with
  | bad i c => intro j c' e; cases e; exact h i c rfl
  | ok x i => exact hf x i
theorem Bd.ite {α : Type} {p : Prop} [Decidable p] {a b : Rs α} (ha : Bd a) (hb : Bd b) : Bd (if p then a else b) := by split <;> assumption
theorem take_bd (ts : List Tp) (k : Int) (i : Nat) : Bd (takeS ts k i) := .ite (.ok _ _) (.b120 _)
theorem want_bd (ts : List Tp) (x : List UInt8) (i : Nat) : Bd (wantS ts x i) := .ite (.ok _ _) (.b120 _)
theorem name_bd (ts : List Tp) (i : Nat) : Bd (nameS ts i) := (take_bd ts 1 i).and fun _ _ => .ok _ _
theorem num_bd (ts : List Tp) (i : Nat) : Bd (numS' ts i) := (take_bd ts 2 i).and fun _ _ => .ok _ _
theorem text_bd (ts : List Tp) (i : Nat) : Bd (textV ts i) := (take_bd ts 3 i).and fun _ _ => .ok _ _
theorem oneOf_bd (ts : List Tp) (ws : List (List UInt8)) (i : Nat) : Bd (oneOfS ts ws i) := by
  unfold oneOfS; split
  · exact .ok _ _
  · exact .b120 _
theorem more_bd {α : Type} {ts : List Tp} {one : Nat → Rs α} (ho : ∀ i, Bd (one i)) : ∀ f acc i, Bd (moreS ts one f acc i)
  | 0, _, _ => .ok _ _
  | f + 1, _, _ => by unfold moreS; exact .ite ((ho _).and fun _ _ => more_bd ho f _ _) (.ok _ _)
theorem list_bd {α : Type} {ts : List Tp} {one : Nat → Rs α} (ho : ∀ i, Bd (one i)) (i : Nat) : Bd (listS ts one i) := (ho i).and fun _ _ => more_bd ho _ _ _
theorem agg_bd (ts : List Tp) (i : Nat) : Bd (aggS ts i) := (oneOf_bd ts _ i).and fun _ _ => .ite (.ok _ _) ((name_bd ts _).and fun _ _ => .ok _ _)
theorem value_bd (ts : List Tp) (i : Nat) : Bd (valueS ts i) := .ite ((num_bd ts i).and fun _ _ => .ok _ _) (.ite (text_bd ts i) ((oneOf_bd ts _ i).and fun _ _ => .ok _ _))
theorem test_bd (ts : List Tp) (i : Nat) : Bd (testS ts i) := (name_bd ts i).and fun _ _ => .ite ((text_bd ts _).and fun _ _ => .ok _ _) ((oneOf_bd ts _ _).and fun _ _ => (value_bd ts _).and fun _ _ => .ok _ _)
theorem fetch_bd (ts : List Tp) (i : Nat) : Bd (fetchS ts i) := (want_bd ts _ i).and fun _ _ => (name_bd ts _).and fun _ _ => .ite ((num_bd ts _).and fun _ _ => (want_bd ts _ _).and fun _ _ => (num_bd ts _).and fun _ _ => .ok _ _) (.ok _ _)
theorem chainL_bd {ts : List Tp} {x : List UInt8} {kind : Int} {p : PN} (hp : ∀ i ns, Bd (p i ns)) : ∀ f a i ns, Bd (chainL ts x kind p f a i ns)
  | 0, _, _, _ => .ok _ _
  | f + 1, _, _, _ => by unfold chainL; exact .ite ((hp _ _).and fun _ _ => chainL_bd hp f _ _ _) (.ok _ _)
theorem chain_bd {ts : List Tp} {x : List UInt8} {kind : Int} {p : PN} (hp : ∀ i ns, Bd (p i ns)) (i : Nat) (ns : List Np) : Bd (chainS ts x kind p i ns) := (hp i ns).and fun _ _ => chainL_bd hp _ _ _ _
theorem condB_bd {ts : List Tp} {p : PN} (hp : ∀ i ns, Bd (p i ns)) (i : Nat) (ns : List Np) : Bd (condB ts p i ns) := chain_bd (chain_bd hp) i ns
theorem inBr_bd {ts : List Tp} {o : Option PN} (hp : ∀ p, o = some p → ∀ i ns, Bd (p i ns)) (i : Nat) (ns : List Np) : Bd (inBr ts o i ns) := by
  unfold inBr
  split
  · cases o with
    | none => exact .b2 _
    | some p => exact (hp p rfl _ _).and fun _ _ => (want_bd ts _ _).and fun _ _ => .ok _ _
  · exact .b120 _
theorem notB_bd {ts : List Tp} {o : Option PN} (hp : ∀ p, o = some p → ∀ i ns, Bd (p i ns)) (i : Nat) (ns : List Np) : Bd (notB ts o i ns) := by
  unfold notB
  split
  · cases o with
    | none => exact .b2 _
    | some p => exact (hp p rfl _ _).and fun _ _ => .ok _ _
  · split
    · refine inBr_bd ?_ i ns
      intro q hq
      cases o with
      | none => cases hq
      | some p => cases hq; exact condB_bd (hp p rfl)
    · exact (test_bd ts i).and fun _ _ => .ok _ _
theorem not_bd (ts : List Tp) : ∀ d i ns, Bd (notS ts d i ns)
  | 0 => notB_bd (fun p h => by cases h)
  | d + 1 => notB_bd (fun p h => by cases h; exact not_bd ts d)
theorem cond_bd (ts : List Tp) (d i : Nat) (ns : List Np) : Bd (condS ts d i ns) := condB_bd (not_bd ts d) i ns
theorem stepB_bd {ts : List Tp} {c : PN} {o : Option PN} (hc : ∀ i ns, Bd (c i ns)) (hp : ∀ p, o = some p → ∀ i ns, Bd (p i ns)) (rows i : Nat) (ns : List Np) : Bd (stepB ts c o rows i ns) := by
  refine (oneOf_bd ts _ i).and fun k j => ?_
  split
  · exact (hc _ _).and fun _ _ => .ok _ _
  · exact (list_bd (name_bd ts) _).and fun _ _ => .ok _ _
  · exact (num_bd ts _).and fun _ _ => .ok _ _
  · exact .ite ((list_bd (agg_bd ts) _).and fun _ _ => .ok _ _) ((list_bd (name_bd ts) _).and fun _ _ => (want_bd ts _ _).and fun _ _ => (list_bd (agg_bd ts) _).and fun _ _ => .ok _ _)
  · exact (num_bd ts _).and fun _ _ => (want_bd ts _ _).and fun _ _ => (name_bd ts _).and fun _ _ => .ok _ _
  · exact (inBr_bd hp _ _).and fun _ _ => .ok _ _
  · exact (inBr_bd hp _ _).and fun _ _ => .ok _ _
theorem stepsL_bd {ts : List Tp} {s : Nat → Nat → List Np → Rs (Np × List Np)} (hs : ∀ a i ns, Bd (s a i ns)) : ∀ f a i ns, Bd (stepsL ts s f a i ns)
  | 0, _, _, _ => .ok _ _
  | f + 1, _, _, _ => by unfold stepsL; exact .ite ((hs _ _ _).and fun _ _ => stepsL_bd hs f _ _ _) (.ok _ _)
theorem queryB_bd {ts : List Tp} {c : PN} {o : Option PN} (hc : ∀ i ns, Bd (c i ns)) (hp : ∀ p, o = some p → ∀ i ns, Bd (p i ns)) (i : Nat) (ns : List Np) : Bd (queryB ts c o i ns) :=
  (fetch_bd ts i).and fun _ _ => stepsL_bd (fun a i ns => stepB_bd hc hp a i ns) _ _ _ _
theorem query_bd (ts : List Tp) : ∀ d i ns, Bd (queryS ts d i ns)
  | 0 => queryB_bd (cond_bd ts 0) (fun p h => by cases h)
  | d + 1 => queryB_bd (cond_bd ts (d + 1)) (fun p h => by cases h; exact query_bd ts d)
def ents (new : List Np) : List Int := new.flatMap (·.l)
/- New nodes, the first of them of number k. -/
structure Tree (k : Nat) (new : List Np) : Prop where
  ne : 0 < new.length
  low : ∀ t x, new[t]? = some x → ∀ e ∈ x.l, ∃ j : Nat, e = (j : Int) ∧ k ≤ j ∧ j < k + t
  one : ∀ j : Nat, k ≤ j → j + 1 < k + new.length → (ents new).count (j : Int) = 1
theorem Tree.range {k : Nat} {new : List Np} (h : Tree k new) : ∀ e ∈ ents new, ∃ j : Nat, e = (j : Int) ∧ k ≤ j ∧ j + 1 < k + new.length := by
  intro e he
  obtain ⟨x, hx, hm⟩ := List.mem_flatMap.1 he
  obtain ⟨t, ht, rfl⟩ := List.getElem_of_mem hx
  obtain ⟨j, h1, h2, h3⟩ := h.low t _ (List.getElem?_eq_getElem ht) e hm
  exact ⟨j, h1, h2, by omega⟩
theorem Tree.none {k : Nat} {new : List Np} (h : Tree k new) {j : Nat} (hj : j < k ∨ k + new.length ≤ j + 1) : (ents new).count (j : Int) = 0 := by
  rw [List.count_eq_zero]
  intro hm
  obtain ⟨i, h1, h2, h3⟩ := h.range _ hm
  omega
theorem tree_leaf (k : Nat) {x : Np} (h : x.l = []) : Tree k [x] :=
  ⟨by simp, fun t y hy e he => by
    cases t with
    | zero => simp at hy; subst hy; rw [h] at he; cases he
    | succ t => simp at hy, fun j h1 h2 => by simp at h2; omega⟩
theorem ents_app (a b : List Np) : ents (a ++ b) = ents a ++ ents b := by simp [ents]
theorem tree_one {k : Nat} {a : List Np} {x : Np} (h : Tree k a) (hx : x.l = [((k + a.length - 1 : Nat) : Int)]) : Tree k (a ++ [x]) := by
  have hn := h.ne
  refine ⟨by simp, fun t y hy e he => ?_, fun j h1 h2 => ?_⟩
  · rcases Nat.lt_or_ge t a.length with ht | ht
    · rw [List.getElem?_append_left ht] at hy; exact h.low t y hy e he
    · rw [List.getElem?_append_right ht] at hy
      cases e' : t - a.length with
      | zero =>
        rw [e'] at hy; simp at hy; subst hy; rw [hx] at he; simp at he
        exact ⟨k + a.length - 1, he, by omega, by omega⟩
      | succ n => rw [e'] at hy; simp at hy
  · rw [ents_app, List.count_append]
    have e2 : ents [x] = [((k + a.length - 1 : Nat) : Int)] := by simp [ents, hx]
    rw [e2]
    simp only [List.length_append, List.length_cons, List.length_nil] at h2
    by_cases hj : j + 1 < k + a.length
    · rw [h.one j h1 hj, List.count_eq_zero.2 (by simp; omega)]
    · rw [h.none (j := j) (by omega), show j = k + a.length - 1 by omega]
      simp
theorem tree_two {k : Nat} {a c : List Np} {x : Np} (h : Tree k a) (hc : Tree (k + a.length) c) (hx : x.l = [((k + a.length - 1 : Nat) : Int), ((k + a.length + c.length - 1 : Nat) : Int)]) : Tree k (a ++ c ++ [x]) := by
  have hn := h.ne
  have hm := hc.ne
  refine ⟨by simp; omega, fun t y hy e he => ?_, fun j h1 h2 => ?_⟩
  · rcases Nat.lt_or_ge t a.length with ht | ht
    · rw [List.append_assoc, List.getElem?_append_left ht] at hy; exact h.low t y hy e he
    · rw [List.append_assoc, List.getElem?_append_right ht] at hy
      rcases Nat.lt_or_ge (t - a.length) c.length with ht2 | ht2
      · rw [List.getElem?_append_left ht2] at hy
        obtain ⟨j, e1, e2, e3⟩ := hc.low _ y hy e he
        exact ⟨j, e1, by omega, by omega⟩
      · rw [List.getElem?_append_right ht2] at hy
        cases e' : t - a.length - c.length with
        | zero =>
          rw [e'] at hy; simp at hy; subst hy; rw [hx] at he; simp at he
          rcases he with he | he
          · exact ⟨k + a.length - 1, he, by omega, by omega⟩
          · exact ⟨k + a.length + c.length - 1, he, by omega, by omega⟩
        | succ n => rw [e'] at hy; simp at hy
  · rw [ents_app, ents_app, List.count_append, List.count_append]
    have e2 : ents [x] = [((k + a.length - 1 : Nat) : Int), ((k + a.length + c.length - 1 : Nat) : Int)] := by simp [ents, hx]
    rw [e2]
    simp only [List.length_append, List.length_cons, List.length_nil] at h2
    have e3 : ∀ p q : Nat, ([((p : Nat) : Int), ((q : Nat) : Int)] : List Int).count (j : Int) = (if p = j then 1 else 0) + (if q = j then 1 else 0) := by
      intro p q
      simp only [List.count_cons, List.count_nil, beq_iff_eq, Int.ofNat_inj]
      omega
    rw [e3]
    by_cases hj : j + 1 < k + a.length
    · rw [h.one j h1 hj, hc.none (j := j) (by omega), if_neg (by omega), if_neg (by omega)]
    · by_cases hj2 : j + 1 = k + a.length
      · rw [h.none (j := j) (by omega), hc.none (j := j) (by omega), if_pos (by omega), if_neg (by omega)]
      · rw [h.none (j := j) (by omega)]
        by_cases hj3 : j + 1 < k + a.length + c.length
        · rw [hc.one j (by omega) hj3, if_neg (by omega), if_neg (by omega)]
        · rw [hc.none (j := j) (by omega), if_neg (by omega), if_pos (by omega)]
/- What lays nodes lays a tree behind those that were there, and names its last. -/
def GoT (p : PN) : Prop := ∀ i ns r j, p i ns = .ok r j → ∃ new, r.2 = ns ++ new ∧ Tree ns.length new ∧ r.1 + 1 = r.2.length
theorem chainL_t {ts : List Tp} {x : List UInt8} {kind : Int} {p : PN} (hp : GoT p) : ∀ f a i base A r j, Tree base.length A → a + 1 = (base ++ A).length → chainL ts x kind p f a i (base ++ A) = .ok r j → ∃ new, r.2 = base ++ new ∧ Tree base.length new ∧ r.1 + 1 = r.2.length
  | 0, a, i, base, A, r, j, hA, ha, h => by simp [chainL] at h; obtain ⟨rfl, rfl⟩ := h; exact ⟨A, rfl, hA, ha⟩
  | f + 1, a, i, base, A, r, j, hA, ha, h => by
    unfold chainL at h
    split at h
    · obtain ⟨y, i1, h1, h2⟩ := and_ok h
      obtain ⟨C, e1, e2, e3⟩ := hp _ _ _ _ h1
      have hn := hA.ne
      have hm := e2.ne
      simp only [List.length_append] at ha e2
      rw [e1] at h2 e3
      simp only [List.length_append] at e3
      rw [show base ++ A ++ C ++ [({ n0 with kind := kind, l := [(a : Int), (y.1 : Int)] } : Np)] = base ++ (A ++ C ++ [({ n0 with kind := kind, l := [(a : Int), (y.1 : Int)] } : Np)]) by simp] at h2
      exact chainL_t hp f _ _ base _ _ _ (tree_two hA e2 (by show [(a : Int), (y.1 : Int)] = _; rw [show a = base.length + A.length - 1 by omega, show y.1 = base.length + A.length + C.length - 1 by omega])) (by simp; omega) h2
    · cases h; exact ⟨A, rfl, hA, ha⟩
theorem chain_t {ts : List Tp} {x : List UInt8} {kind : Int} {p : PN} (hp : GoT p) : GoT (chainS ts x kind p) := by
  intro i ns r j h
  obtain ⟨y, i1, h1, h2⟩ := and_ok h
  obtain ⟨A, e1, e2, e3⟩ := hp _ _ _ _ h1
  rw [e1] at h2 e3
  exact chainL_t hp _ _ _ ns A r j e2 e3 h2
theorem condB_t {ts : List Tp} {p : PN} (hp : GoT p) : GoT (condB ts p) := chain_t (chain_t hp)
theorem inBr_t {ts : List Tp} {o : Option PN} (hp : ∀ p, o = some p → GoT p) : GoT (inBr ts o) := by
  intro i ns r j h
  unfold inBr at h
  split at h
  · cases o with
    | none => cases h
    | some p =>
      obtain ⟨y, i1, h1, h2⟩ := and_ok h
      obtain ⟨_, i2, h3, h4⟩ := and_ok h2
      cases h4; exact hp p rfl _ _ _ _ h1
  · cases h
theorem test_l {ts : List Tp} {i j : Nat} {x : Np} (h : testS ts i = .ok x j) : x.l = [] := by
  obtain ⟨k, i1, h1, h2⟩ := and_ok h
  split at h2
  · obtain ⟨y, i2, h3, h4⟩ := and_ok h2
    cases h4; rfl
  · obtain ⟨y, i2, h3, h4⟩ := and_ok h2
    obtain ⟨z, i3, h5, h6⟩ := and_ok h4
    cases h6; rfl
theorem fetch_l {ts : List Tp} {i j : Nat} {x : Np} (h : fetchS ts i = .ok x j) : x.l = [] := by
  obtain ⟨_, i1, h1, h2⟩ := and_ok h
  obtain ⟨_, i2, h3, h4⟩ := and_ok h2
  split at h4
  · obtain ⟨_, i3, h5, h6⟩ := and_ok h4
    obtain ⟨_, i4, h7, h8⟩ := and_ok h6
    obtain ⟨_, i5, h9, h10⟩ := and_ok h8
    cases h10; rfl
  · cases h4; rfl
theorem notB_t {ts : List Tp} {o : Option PN} (hp : ∀ p, o = some p → GoT p) : GoT (notB ts o) := by
  intro i ns r j h
  unfold notB at h
  split at h
  · cases o with
    | none => cases h
    | some p =>
      obtain ⟨y, i1, h1, h2⟩ := and_ok h
      obtain ⟨A, e1, e2, e3⟩ := hp p rfl _ _ _ _ h1
      have hn := e2.ne
      cases h2
      refine ⟨A ++ [{ n0 with kind := 13, l := [(y.1 : Int)] }], by simp [e1], tree_one e2 ?_, by simp⟩
      show [(y.1 : Int)] = _
      rw [e1] at e3
      simp only [List.length_append] at e3
      rw [show y.1 = ns.length + A.length - 1 by omega]
  · split at h
    · refine inBr_t ?_ _ _ _ _ h
      intro q hq
      cases o with
      | none => cases hq
      | some p => cases hq; exact condB_t (hp p rfl)
    · obtain ⟨y, i1, h1, h2⟩ := and_ok h
      cases h2
      exact ⟨[y], rfl, tree_leaf _ (test_l h1), by simp⟩
theorem not_t (ts : List Tp) : ∀ d, GoT (notS ts d)
  | 0 => notB_t (fun p h => by cases h)
  | d + 1 => notB_t (fun p h => by cases h; exact not_t ts d)
theorem cond_t (ts : List Tp) (d : Nat) : GoT (condS ts d) := condB_t (not_t ts d)
/- A step: one node more, or a tree and one. -/
theorem stepB_t {ts : List Tp} {c : PN} {o : Option PN} (hc : GoT c) (hp : ∀ p, o = some p → GoT p) (a i : Nat) (ns : List Np) (r : Np × List Np) (j : Nat) (h : stepB ts c o a i ns = .ok r j) :
    (r.2 = ns ∧ r.1.l = [(a : Int)]) ∨ ∃ C, r.2 = ns ++ C ∧ Tree ns.length C ∧ r.1.l = [(a : Int), ((ns.length + C.length - 1 : Nat) : Int)] := by
  obtain ⟨k, i1, h1, h2⟩ := and_ok h
  have two : ∀ (y : Nat × List Np), (∃ new, y.2 = ns ++ new ∧ Tree ns.length new ∧ y.1 + 1 = y.2.length) → ∃ C, y.2 = ns ++ C ∧ Tree ns.length C ∧ [(a : Int), (y.1 : Int)] = [(a : Int), ((ns.length + C.length - 1 : Nat) : Int)] := by
    rintro y ⟨C, e1, e2, e3⟩
    refine ⟨C, e1, e2, ?_⟩
    rw [e1] at e3
    simp only [List.length_append] at e3
    rw [show y.1 = ns.length + C.length - 1 by omega]
  split at h2
  · obtain ⟨y, i2, h3, h4⟩ := and_ok h2
    cases h4; exact .inr (two y (hc _ _ _ _ h3))
  · obtain ⟨y, i2, h3, h4⟩ := and_ok h2
    cases h4; exact .inl ⟨rfl, rfl⟩
  · obtain ⟨y, i2, h3, h4⟩ := and_ok h2
    cases h4; exact .inl ⟨rfl, rfl⟩
  · split at h2
    · obtain ⟨y, i2, h3, h4⟩ := and_ok h2
      cases h4; exact .inl ⟨rfl, rfl⟩
    · obtain ⟨y, i2, h3, h4⟩ := and_ok h2
      obtain ⟨_, i3, h5, h6⟩ := and_ok h4
      obtain ⟨_, i4, h7, h8⟩ := and_ok h6
      cases h8; exact .inl ⟨rfl, rfl⟩
  · obtain ⟨y, i2, h3, h4⟩ := and_ok h2
    obtain ⟨_, i3, h5, h6⟩ := and_ok h4
    obtain ⟨_, i4, h7, h8⟩ := and_ok h6
    cases h8; exact .inl ⟨rfl, rfl⟩
  · obtain ⟨y, i2, h3, h4⟩ := and_ok h2
    cases h4; exact .inr (two y (inBr_t hp _ _ _ _ h3))
  · obtain ⟨y, i2, h3, h4⟩ := and_ok h2
    cases h4; exact .inr (two y (inBr_t hp _ _ _ _ h3))
theorem stepsL_t {ts : List Tp} {c : PN} {o : Option PN} (hc : GoT c) (hp : ∀ p, o = some p → GoT p) : ∀ f a i base A r j, Tree base.length A → a + 1 = (base ++ A).length → stepsL ts (stepB ts c o) f a i (base ++ A) = .ok r j → ∃ new, r.2 = base ++ new ∧ Tree base.length new ∧ r.1 + 1 = r.2.length
  | 0, a, i, base, A, r, j, hA, ha, h => by simp [stepsL] at h; obtain ⟨rfl, rfl⟩ := h; exact ⟨A, rfl, hA, ha⟩
  | f + 1, a, i, base, A, r, j, hA, ha, h => by
    unfold stepsL at h
    split at h
    · obtain ⟨y, i1, h1, h2⟩ := and_ok h
      have hn := hA.ne
      simp only [List.length_append] at ha
      rcases stepB_t hc hp _ _ _ _ _ h1 with ⟨e1, e2⟩ | ⟨C, e1, e2, e3⟩
      · rw [e1, List.append_assoc] at h2
        refine stepsL_t hc hp f _ _ base (A ++ [y.1]) _ _ (tree_one hA ?_) (by simp; omega) h2
        rw [e2, show a = base.length + A.length - 1 by omega]
      · have hm := e2.ne
        simp only [List.length_append] at e2 e3
        rw [e1, show base ++ A ++ C ++ [y.1] = base ++ (A ++ C ++ [y.1]) by simp] at h2
        refine stepsL_t hc hp f _ _ base (A ++ C ++ [y.1]) _ _ (tree_two hA e2 ?_) (by simp; omega) h2
        rw [e3, show a = base.length + A.length - 1 by omega]
    · cases h; exact ⟨A, rfl, hA, ha⟩
theorem queryB_t {ts : List Tp} {c : PN} {o : Option PN} (hc : GoT c) (hp : ∀ p, o = some p → GoT p) : GoT (queryB ts c o) := by
  intro i ns r j h
  obtain ⟨y, i1, h1, h2⟩ := and_ok h
  exact stepsL_t hc hp _ _ _ ns [y] r j (tree_leaf _ (fetch_l h1)) (by simp) h2
theorem query_t (ts : List Tp) : ∀ d, GoT (queryS ts d)
  | 0 => queryB_t (cond_t ts 0) (fun p h => by cases h)
  | d + 1 => queryB_t (cond_t ts (d + 1)) (fun p h => by cases h; exact query_t ts d)
theorem parse_tree {ts : List Tp} (h : (parseS ts).2.2 = 0) : Tree 0 (parseS ts).1 ∧ (parseS ts).1.length ≤ 128 := by
  unfold parseS wholeS at h ⊢
  split at h
  · simp at h
  · rename_i hl
    rw [if_neg hl]
    cases hq : queryS ts 16 0 [] with
    | bad i c =>
      rw [hq] at h
      exfalso
      exact query_bd ts 16 0 [] i c hq h
    | ok r j =>
      rw [hq] at h
      simp only at h ⊢
      split at h
      · simp at h
      · split at h
        · simp at h
        · rename_i h1 h2
          rw [if_neg h1, if_neg h2]
          obtain ⟨new, e1, e2, -⟩ := query_t ts 16 _ _ _ _ hq
          simp at e1
          subst e1
          exact ⟨e2, Nat.le_of_not_lt h2⟩
end Go.Proofs.YtomnjckbgmbgmaaGreatDoor
