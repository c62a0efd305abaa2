/-
  Each node of a query is named by just one behind it, but for the last.
  Conditions put together of others in brackets: how they are read, and what holds of them.
-/
import Derived.Test.YtjekpclbedbaoaaKS01
namespace Go.Proofs.Ytjekpclbedbaoaa

/- An error is none of number 0. -/
def Bd {α : Type} (r : Rs α) : Prop := ∀ j c, r = .bad j c → ¬ c = 0
theorem Bd.ok {α : Type} (x : α) (i : Nat) : Bd (.ok x i) := fun _ _ h => by cases h
theorem Bd.b2 {α : Type} (i : Nat) : Bd (.bad i 2 : Rs α) := fun _ _ h => by cases h; decide
theorem Bd.b120 {α : Type} (i : Nat) : Bd (.bad i 120 : Rs α) := fun _ _ h => by cases h; decide
theorem Bd.and {α β : Type} {r : Rs α} {f : α → Nat → Rs β} (h : Bd r) (hf : ∀ x i, Bd (f x i)) : Bd (r.and f) := by
  cases r with
  | bad i c => intro j c' e; cases e; exact h i c rfl
  | ok x i => exact hf x i
theorem Bd.ite {α : Type} {p : Prop} [Decidable p] {a b : Rs α} (ha : Bd a) (hb : Bd b) : Bd (if p then a else b) := by split <;> assumption
theorem take_bd (ts : List Tp) (k : Int) (i : Nat) : Bd (takeS ts k i) := .ite (.ok _ _) (.b120 _)
theorem want_bd (ts : List Tp) (x : List UInt8) (i : Nat) : Bd (wantS ts x i) := .ite (.ok _ _) (.b120 _)
theorem name_bd (ts : List Tp) (i : Nat) : Bd (nameS ts i) := (take_bd ts 1 i).and fun _ _ => .ok _ _
theorem num_bd (ts : List Tp) (i : Nat) : Bd (numS' ts i) := (take_bd ts 2 i).and fun _ _ => .ok _ _
theorem text_bd (ts : List Tp) (i : Nat) : Bd (textV ts i) := (take_bd ts 3 i).and fun _ _ => .ok _ _
theorem oneOf_bd (ts : List Tp) (ws : List (List UInt8)) (i : Nat) : Bd (oneOfS ts ws i) := by
  unfold oneOfS; split
  · exact .ok _ _
  · exact .b120 _
theorem more_bd {α : Type} {ts : List Tp} {one : Nat → Rs α} (ho : ∀ i, Bd (one i)) : ∀ f acc i, Bd (moreS ts one f acc i)
  | 0, _, _ => .ok _ _
  | f + 1, _, _ => by unfold moreS; exact .ite ((ho _).and fun _ _ => more_bd ho f _ _) (.ok _ _)
theorem list_bd {α : Type} {ts : List Tp} {one : Nat → Rs α} (ho : ∀ i, Bd (one i)) (i : Nat) : Bd (listS ts one i) := (ho i).and fun _ _ => more_bd ho _ _ _
theorem agg_bd (ts : List Tp) (i : Nat) : Bd (aggS ts i) := (oneOf_bd ts _ i).and fun _ _ => .ite (.ok _ _) ((name_bd ts _).and fun _ _ => .ok _ _)
theorem value_bd (ts : List Tp) (i : Nat) : Bd (valueS ts i) := .ite ((num_bd ts i).and fun _ _ => .ok _ _) (.ite (text_bd ts i) ((oneOf_bd ts _ i).and fun _ _ => .ok _ _))
theorem test_bd (ts : List Tp) (i : Nat) : Bd (testS ts i) := (name_bd ts i).and fun _ _ => .ite ((text_bd ts _).and fun _ _ => .ok _ _) ((oneOf_bd ts _ _).and fun _ _ => (value_bd ts _).and fun _ _ => .ok _ _)
theorem fetch_bd (ts : List Tp) (i : Nat) : Bd (fetchS ts i) := (want_bd ts _ i).and fun _ _ => (name_bd ts _).and fun _ _ => .ite ((num_bd ts _).and fun _ _ => (want_bd ts _ _).and fun _ _ => (num_bd ts _).and fun _ _ => .ok _ _) (.ok _ _)
theorem chainL_bd {ts : List Tp} {x : List UInt8} {kind : Int} {p : PN} (hp : ∀ i ns, Bd (p i ns)) : ∀ f a i ns, Bd (chainL ts x kind p f a i ns)
  | 0, _, _, _ => .ok _ _
  | f + 1, _, _, _ => by unfold chainL; exact .ite ((hp _ _).and fun _ _ => chainL_bd hp f _ _ _) (.ok _ _)
theorem chain_bd {ts : List Tp} {x : List UInt8} {kind : Int} {p : PN} (hp : ∀ i ns, Bd (p i ns)) (i : Nat) (ns : List Np) : Bd (chainS ts x kind p i ns) := (hp i ns).and fun _ _ => chainL_bd hp _ _ _ _
theorem condB_bd {ts : List Tp} {p : PN} (hp : ∀ i ns, Bd (p i ns)) (i : Nat) (ns : List Np) : Bd (condB ts p i ns) := chain_bd (chain_bd hp) i ns
theorem inBr_bd {ts : List Tp} {o : Option PN} (hp : ∀ p, o = some p → ∀ i ns, Bd (p i ns)) (i : Nat) (ns : List Np) : Bd (inBr ts o i ns) := by
  unfold inBr
  split
  · cases o with
    | none => exact .b2 _
    | some p => exact (hp p rfl _ _).and fun _ _ => (want_bd ts _ _).and fun _ _ => .ok _ _
  · exact .b120 _
theorem notB_bd {ts : List Tp} {o : Option PN} (hp : ∀ p, o = some p → ∀ i ns, Bd (p i ns)) (i : Nat) (ns : List Np) : Bd (notB ts o i ns) := by
  unfold notB
  split
  · cases o with
    | none => exact .b2 _
    | some p => exact (hp p rfl _ _).and fun _ _ => .ok _ _
  · split
    · refine inBr_bd ?_ i ns
      intro q hq
      cases o with
      | none => cases hq
      | some p => cases hq; exact condB_bd (hp p rfl)
    · exact (test_bd ts i).and fun _ _ => .ok _ _
theorem not_bd (ts : List Tp) : ∀ d i ns, Bd (notS ts d i ns)
  | 0 => notB_bd (fun p h => by cases h)
  | d + 1 => notB_bd (fun p h => by cases h; exact not_bd ts d)
theorem cond_bd (ts : List Tp) (d i : Nat) (ns : List Np) : Bd (condS ts d i ns) := condB_bd (not_bd ts d) i ns
theorem stepB_bd {ts : List Tp} {c : PN} {o : Option PN} (hc : ∀ i ns, Bd (c i ns)) (hp : ∀ p, o = some p → ∀ i ns, Bd (p i ns)) (rows i : Nat) (ns : List Np) : Bd (stepB ts c o rows i ns) := by
  refine (oneOf_bd ts _ i).and fun k j => ?_
  split
  · exact (hc _ _).and fun _ _ => .ok _ _
  · exact (list_bd (name_bd ts) _).and fun _ _ => .ok _ _
  · exact (num_bd ts _).and fun _ _ => .ok _ _
  · exact .ite ((list_bd (agg_bd ts) _).and fun _ _ => .ok _ _) ((list_bd (name_bd ts) _).and fun _ _ => (want_bd ts _ _).and fun _ _ => (list_bd (agg_bd ts) _).and fun _ _ => .ok _ _)
  · exact (num_bd ts _).and fun _ _ => (want_bd ts _ _).and fun _ _ => (name_bd ts _).and fun _ _ => .ok _ _
  · exact (inBr_bd hp _ _).and fun _ _ => .ok _ _
  · exact (inBr_bd hp _ _).and fun _ _ => .ok _ _
theorem stepsL_bd {ts : List Tp} {s : Nat → Nat → List Np → Rs (Np × List Np)} (hs : ∀ a i ns, Bd (s a i ns)) : ∀ f a i ns, Bd (stepsL ts s f a i ns)
  | 0, _, _, _ => .ok _ _
  | f + 1, _, _, _ => by unfold stepsL; exact .ite ((hs _ _ _).and fun _ _ => stepsL_bd hs f _ _ _) (.ok _ _)
theorem queryB_bd {ts : List Tp} {c : PN} {o : Option PN} (hc : ∀ i ns, Bd (c i ns)) (hp : ∀ p, o = some p → ∀ i ns, Bd (p i ns)) (i : Nat) (ns : List Np) : Bd (queryB ts c o i ns) :=
  (fetch_bd ts i).and fun _ _ => stepsL_bd (fun a i ns => stepB_bd hc hp a i ns) _ _ _ _
theorem query_bd (ts : List Tp) : ∀ d i ns, Bd (queryS ts d i ns)
  | 0 => queryB_bd (cond_bd ts 0) (fun p h => by cases h)
  | d + 1 => queryB_bd (cond_bd ts (d + 1)) (fun p h => by cases h; exact query_bd ts d)
def ents (new : List Np) : List Int := new.flatMap (·.l)
/- New nodes, the first of them of number k. -/
structure Tree (k : Nat) (new : List Np) : Prop where
  ne : 0 < new.length
  low : ∀ t x, new[t]? = some x → ∀ e ∈ x.l, ∃ j : Nat, e = (j : Int) ∧ k ≤ j ∧ j < k + t
  one : ∀ j : Nat, k ≤ j → j + 1 < k + new.length → (ents new).count (j : Int) = 1
theorem Tree.range {k : Nat} {new : List Np} (h : Tree k new) : ∀ e ∈ ents new, ∃ j : Nat, e = (j : Int) ∧ k ≤ j ∧ j + 1 < k + new.length := by
  intro e he
  obtain ⟨x, hx, hm⟩ := List.mem_flatMap.1 he
  obtain ⟨t, ht, rfl⟩ := List.getElem_of_mem hx
  obtain ⟨j, h1, h2, h3⟩ := h.low t _ (List.getElem?_eq_getElem ht) e hm
  exact ⟨j, h1, h2, by omega⟩
theorem Tree.none {k : Nat} {new : List Np} (h : Tree k new) {j : Nat} (hj : j < k ∨ k + new.length ≤ j + 1) : (ents new).count (j : Int) = 0 := by
  rw [List.count_eq_zero]
  intro hm
  obtain ⟨i, h1, h2, h3⟩ := h.range _ hm
  omega
theorem tree_leaf (k : Nat) {x : Np} (h : x.l = []) : Tree k [x] :=
  ⟨by simp, fun t y hy e he => by
    cases t with
    | zero => simp at hy; subst hy; rw [h] at he; cases he
    | succ t => simp at hy, fun j h1 h2 => by simp at h2; omega⟩
theorem ents_app (a b : List Np) : ents (a ++ b) = ents a ++ ents b := by simp [ents]
theorem tree_one {k : Nat} {a : List Np} {x : Np} (h : Tree k a) (hx : x.l = [((k + a.length - 1 : Nat) : Int)]) : Tree k (a ++ [x]) := by
  have hn := h.ne
  refine ⟨by simp, fun t y hy e he => ?_, fun j h1 h2 => ?_⟩
  · rcases Nat.lt_or_ge t a.length with ht | ht
    · rw [List.getElem?_append_left ht] at hy; exact h.low t y hy e he
    · rw [List.getElem?_append_right ht] at hy
      cases e' : t - a.length with
      | zero =>
        rw [e'] at hy; simp at hy; subst hy; rw [hx] at he; simp at he
        exact ⟨k + a.length - 1, he, by omega, by omega⟩
      | succ n => rw [e'] at hy; simp at hy
  · rw [ents_app, List.count_append]
    have e2 : ents [x] = [((k + a.length - 1 : Nat) : Int)] := by simp [ents, hx]
    rw [e2]
    simp only [List.length_append, List.length_cons, List.length_nil] at h2
    by_cases hj : j + 1 < k + a.length
    · rw [h.one j h1 hj, List.count_eq_zero.2 (by simp; omega)]
    · rw [h.none (j := j) (by omega), show j = k + a.length - 1 by omega]
      simp
theorem tree_two {k : Nat} {a c : List Np} {x : Np} (h : Tree k a) (hc : Tree (k + a.length) c) (hx : x.l = [((k + a.length - 1 : Nat) : Int), ((k + a.length + c.length - 1 : Nat) : Int)]) : Tree k (a ++ c ++ [x]) := by
  have hn := h.ne
  have hm := hc.ne
  refine ⟨by simp; omega, fun t y hy e he => ?_, fun j h1 h2 => ?_⟩
  · rcases Nat.lt_or_ge t a.length with ht | ht
    · rw [List.append_assoc, List.getElem?_append_left ht] at hy; exact h.low t y hy e he
    · rw [List.append_assoc, List.getElem?_append_right ht] at hy
      rcases Nat.lt_or_ge (t - a.length) c.length with ht2 | ht2
      · rw [List.getElem?_append_left ht2] at hy
        obtain ⟨j, e1, e2, e3⟩ := hc.low _ y hy e he
        exact ⟨j, e1, by omega, by omega⟩
      · rw [List.getElem?_append_right ht2] at hy
        cases e' : t - a.length - c.length with
        | zero =>
          rw [e'] at hy; simp at hy; subst hy; rw [hx] at he; simp at he
          rcases he with he | he
          · exact ⟨k + a.length - 1, he, by omega, by omega⟩
          · exact ⟨k + a.length + c.length - 1, he, by omega, by omega⟩
        | succ n => rw [e'] at hy; simp at hy
  · rw [ents_app, ents_app, List.count_append, List.count_append]
    have e2 : ents [x] = [((k + a.length - 1 : Nat) : Int), ((k + a.length + c.length - 1 : Nat) : Int)] := by simp [ents, hx]
    rw [e2]
    simp only [List.length_append, List.length_cons, List.length_nil] at h2
    have e3 : ∀ p q : Nat, ([((p : Nat) : Int), ((q : Nat) : Int)] : List Int).count (j : Int) = (if p = j then 1 else 0) + (if q = j then 1 else 0) := by
      intro p q
      simp only [List.count_cons, List.count_nil, beq_iff_eq, Int.ofNat_inj]
      omega
    rw [e3]
    by_cases hj : j + 1 < k + a.length
    · rw [h.one j h1 hj, hc.none (j := j) (by omega), if_neg (by omega), if_neg (by omega)]
    · by_cases hj2 : j + 1 = k + a.length
      · rw [h.none (j := j) (by omega), hc.none (j := j) (by omega), if_pos (by omega), if_neg (by omega)]
      · rw [h.none (j := j) (by omega)]
        by_cases hj3 : j + 1 < k + a.length + c.length
        · rw [hc.one j (by omega) hj3, if_neg (by omega), if_neg (by omega)]
        · rw [hc.none (j := j) (by omega), if_neg (by omega), if_pos (by omega)]
/- What lays nodes lays a tree behind those that were there, and names its last. -/
def GoT (p : PN) : Prop := ∀ i ns r j, p i ns = .ok r j → ∃ new, r.2 = ns ++ new ∧ Tree ns.length new ∧ r.1 + 1 = r.2.length
theorem chainL_t {ts : List Tp} {x : List UInt8} {kind : Int} {p : PN} (hp : GoT p) : ∀ f a i base A r j, Tree base.length A → a + 1 = (base ++ A).length → chainL ts x kind p f a i (base ++ A) = .ok r j → ∃ new, r.2 = base ++ new ∧ Tree base.length new ∧ r.1 + 1 = r.2.length
  | 0, a, i, base, A, r, j, hA, ha, h => by simp [chainL] at h; obtain ⟨rfl, rfl⟩ := h; exact ⟨A, rfl, hA, ha⟩
  | f + 1, a, i, base, A, r, j, hA, ha, h => by
    unfold chainL at h
    split at h
    · obtain ⟨y, i1, h1, h2⟩ := and_ok h
      obtain ⟨C, e1, e2, e3⟩ := hp _ _ _ _ h1
      have hn := hA.ne
      have hm := e2.ne
      simp only [List.length_append] at ha e2
      rw [e1] at h2 e3
      simp only [List.length_append] at e3
      rw [show base ++ A ++ C ++ [({ n0 with kind := kind, l := [(a : Int), (y.1 : Int)] } : Np)] = base ++ (A ++ C ++ [({ n0 with kind := kind, l := [(a : Int), (y.1 : Int)] } : Np)]) by simp] at h2
      exact chainL_t hp f _ _ base _ _ _ (tree_two hA e2 (by show [(a : Int), (y.1 : Int)] = _; rw [show a = base.length + A.length - 1 by omega, show y.1 = base.length + A.length + C.length - 1 by omega])) (by simp; omega) h2
    · cases h; exact ⟨A, rfl, hA, ha⟩
theorem chain_t {ts : List Tp} {x : List UInt8} {kind : Int} {p : PN} (hp : GoT p) : GoT (chainS ts x kind p) := by
  intro i ns r j h
  obtain ⟨y, i1, h1, h2⟩ := and_ok h
  obtain ⟨A, e1, e2, e3⟩ := hp _ _ _ _ h1
  rw [e1] at h2 e3
  exact chainL_t hp _ _ _ ns A r j e2 e3 h2
theorem condB_t {ts : List Tp} {p : PN} (hp : GoT p) : GoT (condB ts p) := chain_t (chain_t hp)
theorem inBr_t {ts : List Tp} {o : Option PN} (hp : ∀ p, o = some p → GoT p) : GoT (inBr ts o) := by
  intro i ns r j h
  unfold inBr at h
  split at h
  · cases o with
    | none => cases h
    | some p =>
      obtain ⟨y, i1, h1, h2⟩ := and_ok h
      obtain ⟨_, i2, h3, h4⟩ := and_ok h2
      cases h4; exact hp p rfl _ _ _ _ h1
  · cases h
theorem test_l {ts : List Tp} {i j : Nat} {x : Np} (h : testS ts i = .ok x j) : x.l = [] := by
  obtain ⟨k, i1, h1, h2⟩ := and_ok h
  split at h2
  · obtain ⟨y, i2, h3, h4⟩ := and_ok h2
    cases h4; rfl
  · obtain ⟨y, i2, h3, h4⟩ := and_ok h2
    obtain ⟨z, i3, h5, h6⟩ := and_ok h4
    cases h6; rfl
theorem fetch_l {ts : List Tp} {i j : Nat} {x : Np} (h : fetchS ts i = .ok x j) : x.l = [] := by
  obtain ⟨_, i1, h1, h2⟩ := and_ok h
  obtain ⟨_, i2, h3, h4⟩ := and_ok h2
  split at h4
  · obtain ⟨_, i3, h5, h6⟩ := and_ok h4
    obtain ⟨_, i4, h7, h8⟩ := and_ok h6
    obtain ⟨_, i5, h9, h10⟩ := and_ok h8
    cases h10; rfl
  · cases h4; rfl
theorem notB_t {ts : List Tp} {o : Option PN} (hp : ∀ p, o = some p → GoT p) : GoT (notB ts o) := by
  intro i ns r j h
  unfold notB at h
  split at h
  · cases o with
    | none => cases h
    | some p =>
      obtain ⟨y, i1, h1, h2⟩ := and_ok h
      obtain ⟨A, e1, e2, e3⟩ := hp p rfl _ _ _ _ h1
      have hn := e2.ne
      cases h2
      refine ⟨A ++ [{ n0 with kind := 13, l := [(y.1 : Int)] }], by simp [e1], tree_one e2 ?_, by simp⟩
      show [(y.1 : Int)] = _
      rw [e1] at e3
      simp only [List.length_append] at e3
      rw [show y.1 = ns.length + A.length - 1 by omega]
  · split at h
    · refine inBr_t ?_ _ _ _ _ h
      intro q hq
      cases o with
      | none => cases hq
      | some p => cases hq; exact condB_t (hp p rfl)
    · obtain ⟨y, i1, h1, h2⟩ := and_ok h
      cases h2
      exact ⟨[y], rfl, tree_leaf _ (test_l h1), by simp⟩
theorem not_t (ts : List Tp) : ∀ d, GoT (notS ts d)
  | 0 => notB_t (fun p h => by cases h)
  | d + 1 => notB_t (fun p h => by cases h; exact not_t ts d)
theorem cond_t (ts : List Tp) (d : Nat) : GoT (condS ts d) := condB_t (not_t ts d)
/- A step: one node more, or a tree and one. -/
theorem stepB_t {ts : List Tp} {c : PN} {o : Option PN} (hc : GoT c) (hp : ∀ p, o = some p → GoT p) (a i : Nat) (ns : List Np) (r : Np × List Np) (j : Nat) (h : stepB ts c o a i ns = .ok r j) :
    (r.2 = ns ∧ r.1.l = [(a : Int)]) ∨ ∃ C, r.2 = ns ++ C ∧ Tree ns.length C ∧ r.1.l = [(a : Int), ((ns.length + C.length - 1 : Nat) : Int)] := by
  obtain ⟨k, i1, h1, h2⟩ := and_ok h
  have two : ∀ (y : Nat × List Np), (∃ new, y.2 = ns ++ new ∧ Tree ns.length new ∧ y.1 + 1 = y.2.length) → ∃ C, y.2 = ns ++ C ∧ Tree ns.length C ∧ [(a : Int), (y.1 : Int)] = [(a : Int), ((ns.length + C.length - 1 : Nat) : Int)] := by
    rintro y ⟨C, e1, e2, e3⟩
    refine ⟨C, e1, e2, ?_⟩
    rw [e1] at e3
    simp only [List.length_append] at e3
    rw [show y.1 = ns.length + C.length - 1 by omega]
  split at h2
  · obtain ⟨y, i2, h3, h4⟩ := and_ok h2
    cases h4; exact .inr (two y (hc _ _ _ _ h3))
  · obtain ⟨y, i2, h3, h4⟩ := and_ok h2
    cases h4; exact .inl ⟨rfl, rfl⟩
  · obtain ⟨y, i2, h3, h4⟩ := and_ok h2
    cases h4; exact .inl ⟨rfl, rfl⟩
  · split at h2
    · obtain ⟨y, i2, h3, h4⟩ := and_ok h2
      cases h4; exact .inl ⟨rfl, rfl⟩
    · obtain ⟨y, i2, h3, h4⟩ := and_ok h2
      obtain ⟨_, i3, h5, h6⟩ := and_ok h4
      obtain ⟨_, i4, h7, h8⟩ := and_ok h6
      cases h8; exact .inl ⟨rfl, rfl⟩
  · obtain ⟨y, i2, h3, h4⟩ := and_ok h2
    obtain ⟨_, i3, h5, h6⟩ := and_ok h4
    obtain ⟨_, i4, h7, h8⟩ := and_ok h6
    cases h8; exact .inl ⟨rfl, rfl⟩
  · obtain ⟨y, i2, h3, h4⟩ := and_ok h2
    cases h4; exact .inr (two y (inBr_t hp _ _ _ _ h3))
  · obtain ⟨y, i2, h3, h4⟩ := and_ok h2
    cases h4; exact .inr (two y (inBr_t hp _ _ _ _ h3))
theorem stepsL_t {ts : List Tp} {c : PN} {o : Option PN} (hc : GoT c) (hp : ∀ p, o = some p → GoT p) : ∀ f a i base A r j, Tree base.length A → a + 1 = (base ++ A).length → stepsL ts (stepB ts c o) f a i (base ++ A) = .ok r j → ∃ new, r.2 = base ++ new ∧ Tree base.length new ∧ r.1 + 1 = r.2.length
  | 0, a, i, base, A, r, j, hA, ha, h => by simp [stepsL] at h; obtain ⟨rfl, rfl⟩ := h; exact ⟨A, rfl, hA, ha⟩
  | f + 1, a, i, base, A, r, j, hA, ha, h => by
    unfold stepsL at h
    split at h
    · obtain ⟨y, i1, h1, h2⟩ := and_ok h
      have hn := hA.ne
      simp only [List.length_append] at ha
      rcases stepB_t hc hp _ _ _ _ _ h1 with ⟨e1, e2⟩ | ⟨C, e1, e2, e3⟩
      · rw [e1, List.append_assoc] at h2
        refine stepsL_t hc hp f _ _ base (A ++ [y.1]) _ _ (tree_one hA ?_) (by simp; omega) h2
        rw [e2, show a = base.length + A.length - 1 by omega]
      · have hm := e2.ne
        simp only [List.length_append] at e2 e3
        rw [e1, show base ++ A ++ C ++ [y.1] = base ++ (A ++ C ++ [y.1]) by simp] at h2
        refine stepsL_t hc hp f _ _ base (A ++ C ++ [y.1]) _ _ (tree_two hA e2 ?_) (by simp; omega) h2
        rw [e3, show a = base.length + A.length - 1 by omega]
    · cases h; exact ⟨A, rfl, hA, ha⟩
theorem queryB_t {ts : List Tp} {c : PN} {o : Option PN} (hc : GoT c) (hp : ∀ p, o = some p → GoT p) : GoT (queryB ts c o) := by
  intro i ns r j h
  obtain ⟨y, i1, h1, h2⟩ := and_ok h
  exact stepsL_t hc hp _ _ _ ns [y] r j (tree_leaf _ (fetch_l h1)) (by simp) h2
theorem query_t (ts : List Tp) : ∀ d, GoT (queryS ts d)
  | 0 => queryB_t (cond_t ts 0) (fun p h => by cases h)
  | d + 1 => queryB_t (cond_t ts (d + 1)) (fun p h => by cases h; exact query_t ts d)
theorem parse_tree {ts : List Tp} (h : (parseS ts).2.2 = 0) : Tree 0 (parseS ts).1 ∧ (parseS ts).1.length ≤ 128 := by
  unfold parseS wholeS at h ⊢
  split at h
  · simp at h
  · rename_i hl
    rw [if_neg hl]
    cases hq : queryS ts 16 0 [] with
    | bad i c =>
      rw [hq] at h
      exfalso
      exact query_bd ts 16 0 [] i c hq h
    | ok r j =>
      rw [hq] at h
      simp only at h ⊢
      split at h
      · simp at h
      · split at h
        · simp at h
        · rename_i h1 h2
          rw [if_neg h1, if_neg h2]
          obtain ⟨new, e1, e2, -⟩ := query_t ts 16 _ _ _ _ hq
          simp at e1
          subst e1
          exact ⟨e2, Nat.le_of_not_lt h2⟩
end Go.Proofs.Ytjekpclbedbaoaa
namespace Go.Proofs.Ytjekpclbedbaoaa

/- Y has, d places on, what X has, and then a closing bracket. -/
structure Rg (d : Nat) (X Y : List Tp) : Prop where
  at_ : ∀ i, i < X.length → ∃ t u, X[i]? = some t ∧ Y[i + d]? = some u ∧ t.kind = u.kind ∧ t.s = u.s ∧ t.n = u.n
  last : ∃ u, Y[X.length + d]? = some u ∧ u.kind = 4 ∧ u.s = wShut
section
variable {d : Nat} {X Y : List Tp}
theorem Rg.len (h : Rg d X Y) : X.length + d < Y.length := by obtain ⟨u, e, -⟩ := h.last; exact (List.getElem?_eq_some_iff.1 e).1
theorem Rg.W (h : Rg d X Y) {i : Nat} (h2 : i < X.length) (x : List UInt8) : isW Y (i + d) x = isW X i x := by
  obtain ⟨t, u, e1, e2, e3, e4, e5⟩ := h.at_ i h2
  unfold isW; rw [e1, e2]; simp only [e3, e4]
theorem Rg.shut (h : Rg d X Y) : isW Y (X.length + d) wShut = true := by
  obtain ⟨u, e1, e2, e3⟩ := h.last
  unfold isW; rw [e1]; simp [e2, e3]
theorem Rg.W' (h : Rg d X Y) {i : Nat} (h2 : i ≤ X.length) {x : List UInt8} (hx : ¬ x = wShut) : isW Y (i + d) x = isW X i x := by
  rcases Nat.lt_or_ge i X.length with h3 | h3
  · exact h.W h3 x
  · obtain rfl : i = X.length := by omega
    obtain ⟨u, e1, e2, e3⟩ := h.last
    have e4 : isW X X.length x = false := by unfold isW; rw [List.getElem?_eq_none (by omega)]
    rw [e4]; unfold isW; rw [e1]; simp only [e3]
    simp
    intro _ e; exact hx e.symm
theorem Rg.K (h : Rg d X Y) {i : Nat} (h2 : i ≤ X.length) {k : Int} (hk : ¬ k = 4) : isK Y (i + d) k = isK X i k := by
  rcases Nat.lt_or_ge i X.length with h3 | h3
  · obtain ⟨t, u, e1, e2, e3, e4, e5⟩ := h.at_ i h3
    unfold isK; rw [e1, e2]; simp only [e3]
  · obtain rfl : i = X.length := by omega
    obtain ⟨u, e1, e2, e3⟩ := h.last
    have e4 : isK X X.length k = false := by unfold isK; rw [List.getElem?_eq_none (by omega)]
    rw [e4]; unfold isK; rw [e1]; simp only [e2]
    simp; omega
def G1 (d : Nat) (X : List Tp) {α : Type} (f g : Nat → Rs α) : Prop := ∀ i x j, i ≤ X.length → f i = .ok x j → g (i + d) = .ok x (j + d)
theorem take_g (h : Rg d X Y) {k : Int} (hk : ¬ k = 4) {i : Nat} {t : Tp} {j : Nat} (h2 : i ≤ X.length) (e : takeS X k i = .ok t j) : ∃ u, takeS Y k (i + d) = .ok u (j + d) ∧ u.s = t.s ∧ u.n = t.n := by
  unfold takeS at e ⊢
  rw [h.K h2 hk]
  split at e
  · rename_i hh
    rw [if_pos hh]
    cases e
    obtain ⟨t, u, e1, e2, e3, e4, e5⟩ := h.at_ i (isK_lt hh)
    refine ⟨hereS Y (i + d), by rw [show i + d + 1 = i + 1 + d by omega], ?_, ?_⟩ <;> unfold hereS <;> rw [e1, e2] <;> simp [e4, e5]
  · cases e
theorem name_g (h : Rg d X Y) : G1 d X (nameS X) (nameS Y) := by
  intro i x j h2 e
  obtain ⟨t, i1, e1, e2⟩ := and_ok e
  obtain ⟨u, e3, e4, e5⟩ := take_g h (by decide) h2 e1
  unfold nameS; rw [e3]; cases e2; simp [Rs.and, e4]
theorem num_g (h : Rg d X Y) : G1 d X (numS' X) (numS' Y) := by
  intro i x j h2 e
  obtain ⟨t, i1, e1, e2⟩ := and_ok e
  obtain ⟨u, e3, e4, e5⟩ := take_g h (by decide) h2 e1
  unfold numS'; rw [e3]; cases e2; simp [Rs.and, e5]
theorem text_g (h : Rg d X Y) : G1 d X (textV X) (textV Y) := by
  intro i x j h2 e
  obtain ⟨t, i1, e1, e2⟩ := and_ok e
  obtain ⟨u, e3, e4, e5⟩ := take_g h (by decide) h2 e1
  unfold textV; rw [e3]; cases e2; simp [Rs.and, e4]
theorem idx_g (h : Rg d X Y) {i : Nat} (h2 : i ≤ X.length) : ∀ (ws : List (List UInt8)) (k : Nat), ¬ wShut ∈ ws → idxOf Y (i + d) ws k = idxOf X i ws k
  | [], _, _ => rfl
  | x :: r, k, hn => by
    unfold idxOf
    rw [h.W' h2 (fun e => hn (by rw [e]; exact List.mem_cons_self)), idx_g h h2 r (k + 1) (fun e => hn (List.mem_cons_of_mem _ e))]
theorem oneOf_g (h : Rg d X Y) {ws : List (List UInt8)} (hw : ¬ wShut ∈ ws) : G1 d X (oneOfS X ws) (oneOfS Y ws) := by
  intro i x j h2 e
  unfold oneOfS at e ⊢
  rw [idx_g h h2 ws 0 hw]
  split at e
  · cases e; rw [show i + 1 + d = i + d + 1 by omega]
  · cases e
theorem value_g (h : Rg d X Y) : G1 d X (valueS X) (valueS Y) := by
  intro i x j h2 e
  unfold valueS at e ⊢
  rw [h.K h2 (by decide), h.K h2 (by decide)]
  split at e
  · rename_i hk; rw [if_pos hk]
    obtain ⟨y, i2, h3, h4⟩ := and_ok e
    rw [num_g h _ _ _ h2 h3]; cases h4; rfl
  · rename_i hk; rw [if_neg hk]
    split at e
    · rename_i hk2; rw [if_pos hk2]; exact text_g h _ _ _ h2 e
    · rename_i hk2; rw [if_neg hk2]
      obtain ⟨y, i2, h3, h4⟩ := and_ok e
      rw [oneOf_g h (by decide) _ _ _ h2 h3]; cases h4; rfl
theorem test_g (h : Rg d X Y) : G1 d X (testS X) (testS Y) := by
  intro i x j h2 e
  obtain ⟨k, i1, e1, e2⟩ := and_ok e
  have g1 := name_go X _ _ _ e1
  unfold testS
  rw [name_g h _ _ _ h2 e1]
  show (if _ then _ else _) = _
  rw [h.W' g1.2 (by decide)]
  split at e2
  · rename_i hw; rw [if_pos hw]
    obtain ⟨y, i2, h3, h4⟩ := and_ok e2
    have := isW_lt hw
    rw [show i1 + d + 1 = i1 + 1 + d by omega, text_g h _ _ _ (by omega) h3]; cases h4; rfl
  · rename_i hw; rw [if_neg hw]
    obtain ⟨y, i2, h3, h4⟩ := and_ok e2
    obtain ⟨z, i3, h5, h6⟩ := and_ok h4
    have g2 := oneOf_go X _ _ _ _ h3
    rw [oneOf_g h (by decide) _ _ _ g1.2 h3]
    show (valueS Y (i2 + d)).and _ = _
    rw [value_g h _ _ _ g2.2 h5]; cases h6; rfl
def GN (d : Nat) (X : List Tp) (p q : PN) : Prop := ∀ i ns r j, i ≤ X.length → p i ns = .ok r j → q (i + d) ns = .ok r (j + d)
theorem chainL_g (h : Rg d X Y) {x : List UInt8} (hx : ¬ x = wShut) {kind : Int} {p q : PN} (hp : GN d X p q) (hg : GoN X p) : ∀ F F' a i ns r j, i ≤ X.length → X.length ≤ F + i → X.length < F' + i → chainL X x kind p F a i ns = .ok r j → chainL Y x kind q F' a (i + d) ns = .ok r (j + d)
  | 0, F', a, i, ns, r, j, hi, h1, h2, e => by
    simp [chainL] at e
    obtain ⟨rfl, rfl⟩ := e
    obtain ⟨F'', rfl⟩ : ∃ n, F' = n + 1 := ⟨F' - 1, by omega⟩
    have e : isW X i x = false := by unfold isW; rw [List.getElem?_eq_none (by omega)]
    rw [chainL, h.W' hi hx, e]; rfl
  | F + 1, F', a, i, ns, r, j, hi, h1, h2, e => by
    obtain ⟨F'', rfl⟩ : ∃ n, F' = n + 1 := ⟨F' - 1, by omega⟩
    rw [chainL] at e ⊢
    rw [h.W' hi hx]
    split at e
    · rename_i hw
      rw [if_pos hw]
      have hlt := isW_lt hw
      obtain ⟨y, i1, h3, h4⟩ := and_ok e
      rw [show i + d + 1 = i + 1 + d by omega, hp _ _ _ _ (by omega) h3]
      have g1 := hg _ _ _ _ h3
      exact chainL_g h hx hp hg F F'' _ _ _ _ _ g1.2.1 (by omega) (by omega) h4
    · rename_i hw; rw [if_neg hw]; cases e; rfl
theorem chain_g (h : Rg d X Y) {x : List UInt8} (hx : ¬ x = wShut) {kind : Int} {p q : PN} (hp : GN d X p q) (hg : GoN X p) : GN d X (chainS X x kind p) (chainS Y x kind q) := by
  intro i ns r j hi e
  obtain ⟨y, i1, h1, h2⟩ := and_ok e
  have g1 := hg _ _ _ _ h1
  have hl := h.len
  unfold chainS
  rw [hp _ _ _ _ hi h1]
  exact chainL_g h hx hp hg _ _ _ _ _ _ _ g1.2.1 (by omega) (by omega) h2
theorem condB_g (h : Rg d X Y) {p q : PN} (hp : GN d X p q) (hg : GoN X p) : GN d X (condB X p) (condB Y q) := chain_g h (by decide) (chain_g h (by decide) hp hg) (both_go hg)
theorem inBr_g (h : Rg d X Y) {o o' : Option PN} (ho : ∀ p, o = some p → ∃ q, o' = some q ∧ GN d X p q ∧ GoN X p) : GN d X (inBr X o) (inBr Y o') := by
  intro i ns r j hi e
  unfold inBr at e ⊢
  rw [h.W' hi (by decide)]
  split at e
  · rename_i hw; rw [if_pos hw]
    have hlt := isW_lt hw
    cases o with
    | none => cases e
    | some p =>
      obtain ⟨q, rfl, hq, hg⟩ := ho p rfl
      obtain ⟨y, i1, h1, h2⟩ := and_ok e
      obtain ⟨_, i2, h3, h4⟩ := and_ok h2
      have g1 := hg _ _ _ _ h1
      have hl : i1 < X.length := by have := want_go X _ _ _ _ h3; omega
      show (q (i + d + 1) ns).and _ = _
      rw [show i + d + 1 = i + 1 + d by omega, hq _ _ _ _ (by omega) h1]
      show (wantS Y wShut (i1 + d)).and _ = _
      unfold wantS at h3 ⊢
      rw [h.W hl]
      split at h3
      · rename_i hs; rw [if_pos hs]; cases h3; cases h4; rw [show i1 + d + 1 = i1 + 1 + d by omega]; rfl
      · cases h3
  · cases e
theorem notB_g (h : Rg d X Y) {o o' : Option PN} (ho : ∀ p, o = some p → ∃ q, o' = some q ∧ GN d X p q ∧ GoN X p) : GN d X (notB X o) (notB Y o') := by
  intro i ns r j hi e
  unfold notB at e ⊢
  rw [h.W' hi (by decide), h.W' hi (by decide)]
  split at e
  · rename_i hw; rw [if_pos hw]
    have hlt := isW_lt hw
    cases o with
    | none => cases e
    | some p =>
      obtain ⟨q, rfl, hq, -⟩ := ho p rfl
      obtain ⟨y, i1, h1, h2⟩ := and_ok e
      show (q (i + d + 1) ns).and _ = _
      rw [show i + d + 1 = i + 1 + d by omega, hq _ _ _ _ (by omega) h1]; cases h2; rfl
  · rename_i hw; rw [if_neg hw]
    split at e
    · rename_i hw2; rw [if_pos hw2]
      refine inBr_g h ?_ _ _ _ _ hi e
      intro c hc
      cases o with
      | none => cases hc
      | some p =>
        cases hc
        obtain ⟨q, rfl, hq, hg⟩ := ho p rfl
        exact ⟨_, rfl, condB_g h hq hg, condB_go hg⟩
    · rename_i hw2; rw [if_neg hw2]
      obtain ⟨y, i1, h1, h2⟩ := and_ok e
      rw [test_g h _ _ _ hi h1]; cases h2; rfl
theorem not_g (h : Rg d X Y) : ∀ k, GN d X (notS X k) (notS Y k)
  | 0 => notB_g h (fun p h => by cases h)
  | k + 1 => notB_g h (fun p hh => by cases hh; exact ⟨_, rfl, not_g h k, not_go X k⟩)
theorem cond_g (h : Rg d X Y) (k : Nat) : GN d X (condS X k) (condS Y k) := condB_g h (not_g h k) (not_go X k)
end

/- How the last one of a row of nodes is judged, by those ahead of it. -/
structure Jd (tv : List Np → Nat → Bool) : Prop where
  ext : ∀ ns m a, a < ns.length → tv (ns ++ m) a = tv ns a
  nt : ∀ ns a, a < ns.length → tv (ns ++ [{ n0 with kind := 13, l := [(a : Int)] }]) ns.length = !tv ns a
  two : ∀ ns a b k, (k = 11 ∨ k = 12) → a < ns.length → b < ns.length → tv (ns ++ [{ n0 with kind := k, l := [(a : Int), (b : Int)] }]) ns.length = (if k = 11 then tv ns a && tv ns b else tv ns a || tv ns b)
  lf : ∀ ns n, (n.kind = 14 ∨ n.kind = 15) → tv (ns ++ [n]) ns.length = tv [n] 0
section
variable {tv : List Np → Nat → Bool} {ts : List Tp}
def opB (k : Int) (x y : Bool) : Bool := if k = 11 then x && y else x || y
def Ok1 (tv : List Np → Nat → Bool) (p : PN) (i j : Nat) (b : Bool) : Prop := ∀ ns, ∃ r, p i ns = .ok r j ∧ tv r.2 r.1 = b
def Uni (tv : List Np → Nat → Bool) (p : PN) : Prop := ∀ i ns r j, p i ns = .ok r j → ∃ b, Ok1 tv p i j b
theorem test_k {i j : Nat} {x : Np} (h : testS ts i = .ok x j) : x.kind = 14 ∨ x.kind = 15 := by
  obtain ⟨k, i1, h1, h2⟩ := and_ok h
  split at h2
  · obtain ⟨y, i2, h3, h4⟩ := and_ok h2; cases h4; exact .inr rfl
  · obtain ⟨y, i2, h3, h4⟩ := and_ok h2; obtain ⟨z, i3, h5, h6⟩ := and_ok h4; cases h6; exact .inl rfl
theorem chainL_u (hJ : Jd tv) {x : List UInt8} {kind : Int} (hk : kind = 11 ∨ kind = 12) {p : PN} (hg : GoT p) (hp : Uni tv p) : ∀ F a i ns r j, a + 1 = ns.length → chainL ts x kind p F a i ns = .ok r j → ∃ G : Bool → Bool, ∀ a' ns', a' + 1 = ns'.length → ∃ r', chainL ts x kind p F a' i ns' = .ok r' j ∧ tv r'.2 r'.1 = G (tv ns' a')
  | 0, a, i, ns, r, j, ha, e => by
    simp [chainL] at e
    obtain ⟨rfl, rfl⟩ := e
    exact ⟨id, fun a' ns' h => ⟨(a', ns'), rfl, rfl⟩⟩
  | F + 1, a, i, ns, r, j, ha, e => by
    rw [chainL] at e
    split at e
    · rename_i hw
      obtain ⟨y, i1, h1, h2⟩ := and_ok e
      obtain ⟨b, hb⟩ := hp _ _ _ _ h1
      obtain ⟨G, hG⟩ := chainL_u hJ hk hg hp F _ _ _ _ _ (by simp) h2
      refine ⟨fun v => G (opB kind v b), fun a' ns' h' => ?_⟩
      obtain ⟨y', h3, h4⟩ := hb ns'
      obtain ⟨new, e1, -, e2⟩ := hg _ _ _ _ h3
      obtain ⟨r', h5, h6⟩ := hG y'.2.length (y'.2 ++ [{ n0 with kind := kind, l := [(a' : Int), (y'.1 : Int)] }]) (by simp)
      refine ⟨r', ?_, ?_⟩
      · rw [chainL, if_pos hw, h3]; exact h5
      · rw [h6]
        have hl : ns'.length ≤ y'.2.length := by rw [e1]; simp
        rw [hJ.two y'.2 a' y'.1 kind hk (by omega) (by omega), h4]
        have : tv y'.2 a' = tv ns' a' := by rw [e1]; exact hJ.ext _ _ _ (by omega)
        rw [this]; rfl
    · rename_i hw
      cases e
      exact ⟨id, fun a' ns' h => ⟨(a', ns'), by rw [chainL, if_neg hw], rfl⟩⟩
theorem chain_u (hJ : Jd tv) {x : List UInt8} {kind : Int} (hk : kind = 11 ∨ kind = 12) {p : PN} (hg : GoT p) (hp : Uni tv p) : Uni tv (chainS ts x kind p) := by
  intro i ns r j e
  obtain ⟨y, i1, h1, h2⟩ := and_ok e
  obtain ⟨b, hb⟩ := hp _ _ _ _ h1
  obtain ⟨new, e1, -, e2⟩ := hg _ _ _ _ h1
  obtain ⟨G, hG⟩ := chainL_u hJ hk hg hp _ _ _ _ _ _ e2 h2
  refine ⟨G b, fun ns' => ?_⟩
  obtain ⟨y', h3, h4⟩ := hb ns'
  obtain ⟨new', e3, -, e4⟩ := hg _ _ _ _ h3
  obtain ⟨r', h5, h6⟩ := hG y'.1 y'.2 e4
  refine ⟨r', ?_, by rw [h6, h4]⟩
  unfold chainS
  rw [h3]; exact h5
theorem condB_u (hJ : Jd tv) {p : PN} (hg : GoT p) (hp : Uni tv p) : Uni tv (condB ts p) := chain_u hJ (.inr rfl) (chain_t hg) (chain_u hJ (.inl rfl) hg hp)
theorem inBr_u {o : Option PN} (ho : ∀ p, o = some p → Uni tv p) : Uni tv (inBr ts o) := by
  intro i ns r j e
  unfold inBr at e
  split at e
  · rename_i hw
    cases o with
    | none => cases e
    | some p =>
      obtain ⟨y, i1, h1, h2⟩ := and_ok e
      obtain ⟨u, i2, h3, h4⟩ := and_ok h2
      cases h4
      obtain ⟨b, hb⟩ := ho p rfl _ _ _ _ h1
      refine ⟨b, fun ns' => ?_⟩
      obtain ⟨y', h5, h6⟩ := hb ns'
      refine ⟨y', ?_, h6⟩
      unfold inBr
      rw [if_pos hw]
      show (p (i + 1) ns').and _ = _
      rw [h5]
      show (wantS ts wShut i1).and _ = _
      rw [h3]; rfl
  · cases e
theorem notB_u (hJ : Jd tv) {o : Option PN} (ho : ∀ p, o = some p → Uni tv p ∧ GoT p) : Uni tv (notB ts o) := by
  intro i ns r j e
  unfold notB at e
  split at e
  · rename_i hw
    cases o with
    | none => cases e
    | some p =>
      obtain ⟨y, i1, h1, h2⟩ := and_ok e
      cases h2
      obtain ⟨b, hb⟩ := (ho p rfl).1 _ _ _ _ h1
      refine ⟨!b, fun ns' => ?_⟩
      obtain ⟨y', h5, h6⟩ := hb ns'
      obtain ⟨new, e1, -, e2⟩ := (ho p rfl).2 _ _ _ _ h5
      refine ⟨(y'.2.length, y'.2 ++ [{ n0 with kind := 13, l := [(y'.1 : Int)] }]), ?_, ?_⟩
      · unfold notB
        rw [if_pos hw]
        show (p (i + 1) ns').and _ = _
        rw [h5]; rfl
      · show tv (y'.2 ++ _) y'.2.length = _
        rw [hJ.nt _ _ (by omega), h6]
  · rename_i hw
    split at e
    · rename_i hw2
      obtain ⟨b, hb⟩ := inBr_u (ts := ts) (o := o.map (condB ts)) (fun c hc => by
        cases o with
        | none => cases hc
        | some p => cases hc; exact condB_u hJ (ho p rfl).2 (ho p rfl).1) _ _ _ _ e
      refine ⟨b, fun ns' => ?_⟩
      obtain ⟨y', h5, h6⟩ := hb ns'
      refine ⟨y', ?_, h6⟩
      unfold notB
      rw [if_neg hw, if_pos hw2]; exact h5
    · rename_i hw2
      obtain ⟨y, i1, h1, h2⟩ := and_ok e
      cases h2
      refine ⟨tv [y] 0, fun ns' => ⟨(ns'.length, ns' ++ [y]), ?_, hJ.lf _ _ (test_k h1)⟩⟩
      unfold notB
      rw [if_neg hw, if_neg hw2, h1]; rfl
theorem not_u (hJ : Jd tv) (ts : List Tp) : ∀ d, Uni tv (notS ts d)
  | 0 => notB_u hJ (fun p h => by cases h)
  | d + 1 => notB_u hJ (fun p h => by cases h; exact ⟨not_u hJ ts d, not_t ts d⟩)
theorem cond_u (hJ : Jd tv) (ts : List Tp) (d : Nat) : Uni tv (condS ts d) := condB_u hJ (not_t ts d) (not_u hJ ts d)
theorem cond_mo' (ts : List Tp) {d : Nat} : ∀ e, Mo (condS ts d) (condS ts (d + e))
  | 0 => fun _ _ _ _ h => h
  | e + 1 => fun _ _ _ _ h => cond_mo ts (d + e) _ _ _ _ (cond_mo' ts e _ _ _ _ h)

/- Where it is read at all, it is read up to k and is b. -/
def Val (tv : List Np → Nat → Bool) (p : PN) (i : Nat) (b : Bool) (k : Nat) : Prop := ∀ ns r j, p i ns = .ok r j → j = k ∧ tv r.2 r.1 = b
theorem paren {X Y : List Tp} {i d : Nat} {b : Bool} (hd : d ≤ 15) (h : Rg (i + 1) X Y) (hX : Ok1 tv (condS X 16) 0 X.length b) (ho : isW Y i wOpen = true) : Val tv (notS Y (d + 1)) i b (i + X.length + 2) := by
  intro ns r j e
  have hn : isW Y i wNot = false := isW_s ho (by decide)
  have e : notB Y (some (notS Y d)) i ns = .ok r j := e
  unfold notB at e
  rw [hn, ho] at e
  simp only [Bool.false_eq_true, if_false, if_true, Option.map_some] at e
  unfold inBr at e
  rw [ho] at e
  simp only [if_true] at e
  obtain ⟨y, i1, h1, h2⟩ := and_ok e
  obtain ⟨u, i2, h3, h4⟩ := and_ok h2
  cases h4
  obtain ⟨r', g1, g2⟩ := hX ns
  have g3 := cond_g h 16 _ _ _ _ (Nat.zero_le _) g1
  have g4 := cond_mo' Y (d := d) (16 - d) _ _ _ _ h1
  rw [show d + (16 - d) = 16 by omega] at g4
  rw [Nat.zero_add] at g3
  rw [g3] at g4
  cases g4
  unfold wantS at h3
  rw [h.shut] at h3
  cases h3
  exact ⟨by omega, g2⟩
theorem notV (hJ : Jd tv) {Y : List Tp} {i d k : Nat} {b : Bool} (hv : Val tv (notS Y d) (i + 1) b k) (hw : isW Y i wNot = true) : Val tv (notS Y (d + 1)) i (!b) k := by
  intro ns r j e
  have e : notB Y (some (notS Y d)) i ns = .ok r j := e
  unfold notB at e
  rw [hw] at e
  simp only [if_true] at e
  obtain ⟨y, i1, h1, h2⟩ := and_ok e
  cases h2
  obtain ⟨g1, g2⟩ := hv _ _ _ h1
  obtain ⟨new, e1, -, e2⟩ := not_t Y d _ _ _ _ h1
  refine ⟨g1, ?_⟩
  show tv (y.2 ++ _) y.2.length = _
  rw [hJ.nt _ _ (by omega), g2]
theorem isW_len {Y : List Tp} {i : Nat} {x : List UInt8} (h : isW Y i x = true) : ∃ f, Y.length = f + 1 := ⟨Y.length - 1, by have := isW_lt h; omega⟩
/- Two, side by side. -/
theorem chain2 (hJ : Jd tv) {Y : List Tp} {p : PN} (hg : GoT p) {x : List UInt8} {kind : Int} (hk : kind = 11 ∨ kind = 12) {i k k2 : Nat} {b c : Bool} (h1 : Val tv p i b k) (hw : isW Y k x = true) (h2 : Val tv p (k + 1) c k2) (hs : isW Y k2 x = false) : Val tv (chainS Y x kind p) i (opB kind b c) k2 := by
  intro ns r j e
  obtain ⟨y, i1, e1, e2⟩ := and_ok e
  obtain ⟨rfl, g2⟩ := h1 _ _ _ e1
  obtain ⟨f, hf⟩ := isW_len hw
  rw [hf, chainL, if_pos hw] at e2
  obtain ⟨z, i2, e3, e4⟩ := and_ok e2
  obtain ⟨rfl, g4⟩ := h2 _ _ _ e3
  rw [chain_stop hs] at e4
  cases e4
  obtain ⟨n1, a1, -, a2⟩ := hg _ _ _ _ e1
  obtain ⟨n2, a3, -, a4⟩ := hg _ _ _ _ e3
  have hl : y.2.length ≤ z.2.length := by rw [a3]; simp
  refine ⟨rfl, ?_⟩
  show tv (z.2 ++ _) z.2.length = _
  rw [hJ.two z.2 y.1 z.1 kind hk (by omega) (by omega), g4]
  have : tv z.2 y.1 = b := by rw [a3, hJ.ext _ _ _ (by omega)]; exact g2
  rw [this]; rfl
theorem chain1 {Y : List Tp} {p : PN} {x : List UInt8} {kind : Int} {i k : Nat} {b : Bool} (h1 : Val tv p i b k) (hs : isW Y k x = false) : Val tv (chainS Y x kind p) i b k := by
  intro ns r j e
  obtain ⟨y, i1, e1, e2⟩ := and_ok e
  obtain ⟨rfl, g2⟩ := h1 _ _ _ e1
  rw [chain_stop hs] at e2
  cases e2
  exact ⟨rfl, g2⟩
theorem and2 (hJ : Jd tv) {Y : List Tp} {d i k k2 : Nat} {b c : Bool} (h1 : Val tv (notS Y d) i b k) (hw : isW Y k wAnd = true) (h2 : Val tv (notS Y d) (k + 1) c k2) (hs : isW Y k2 wAnd = false) (ho : isW Y k2 wOr = false) : Val tv (condS Y d) i (b && c) k2 :=
  chain1 (chain2 hJ (not_t Y d) (.inl rfl) h1 hw h2 hs) ho
theorem or2 (hJ : Jd tv) {Y : List Tp} {d i k k2 : Nat} {b c : Bool} (h1 : Val tv (notS Y d) i b k) (hw : isW Y k wOr = true) (h2 : Val tv (notS Y d) (k + 1) c k2) (hs : isW Y k2 wAnd = false) (ho : isW Y k2 wOr = false) : Val tv (condS Y d) i (b || c) k2 :=
  chain2 hJ (chain_t (not_t Y d)) (.inr rfl) (chain1 h1 (isW_s hw (by decide))) hw (chain1 h2 hs) ho
theorem one1 {Y : List Tp} {d i k : Nat} {b : Bool} (h1 : Val tv (notS Y d) i b k) (hs : isW Y k wAnd = false) (ho : isW Y k wOr = false) : Val tv (condS Y d) i b k := chain1 (chain1 h1 hs) ho
/- In brackets of one's own. -/
theorem paren' {Y : List Tp} {i d k : Nat} {b : Bool} (hv : Val tv (condS Y d) (i + 1) b k) (ho : isW Y i wOpen = true) : Val tv (notS Y (d + 1)) i b (k + 1) := by
  intro ns r j e
  have hn : isW Y i wNot = false := isW_s ho (by decide)
  have e : notB Y (some (notS Y d)) i ns = .ok r j := e
  unfold notB at e
  rw [hn, ho] at e
  simp only [Bool.false_eq_true, if_false, if_true, Option.map_some] at e
  unfold inBr at e
  rw [ho] at e
  simp only [if_true] at e
  obtain ⟨y, i1, h1, h2⟩ := and_ok e
  obtain ⟨u, i2, h3, h4⟩ := and_ok h2
  cases h4
  obtain ⟨rfl, g2⟩ := hv _ _ _ h1
  unfold wantS at h3
  split at h3
  · cases h3; exact ⟨rfl, g2⟩
  · cases h3
end
end Go.Proofs.Ytjekpclbedbaoaa
