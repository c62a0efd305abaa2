/-
  Each node of a query is named by just one behind it, but for the last.
  Tokens behind a query that begin with a bar change nothing ahead of them.
-/
import Derived.Test.YtmpjmimhoikknaaGreatDoorK02
namespace Go.Proofs.YtmpjmimhoikknaaGreatDoor

/- An error is none of number 0. -/
def Bd {α : Type} (r : Rs α) : Prop := ∀ j c, r = .bad j c → ¬ c = 0
theorem Bd.ok {α : Type} (x : α) (i : Nat) : Bd (.ok x i) := fun _ _ h => by cases h
theorem Bd.b2 {α : Type} (i : Nat) : Bd (.bad i 2 : Rs α) := fun _ _ h => by cases h; decide
theorem Bd.b120 {α : Type} (i : Nat) : Bd (.bad i 120 : Rs α) := fun _ _ h => by cases h; decide
theorem Bd.and {α β : Type} {r : Rs α} {f : α → Nat → Rs β} (h : Bd r) (hf : ∀ x i, Bd (f x i)) : Bd (r.and f) := by
  cases r with
  | bad i c => intro j c' e; cases e; exact h i c rfl
  | ok x i => exact hf x i
theorem Bd.ite {α : Type} {p : Prop} [Decidable p] {a b : Rs α} (ha : Bd a) (hb : Bd b) : Bd (if p then a else b) := by split <;> assumption
theorem take_bd (ts : List Tp) (k : Int) (i : Nat) : Bd (takeS ts k i) := .ite (.ok _ _) (.b120 _)
theorem want_bd (ts : List Tp) (x : List UInt8) (i : Nat) : Bd (wantS ts x i) := .ite (.ok _ _) (.b120 _)
theorem name_bd (ts : List Tp) (i : Nat) : Bd (nameS ts i) := (take_bd ts 1 i).and fun _ _ => .ok _ _
theorem num_bd (ts : List Tp) (i : Nat) : Bd (numS' ts i) := (take_bd ts 2 i).and fun _ _ => .ok _ _
theorem text_bd (ts : List Tp) (i : Nat) : Bd (textV ts i) := (take_bd ts 3 i).and fun _ _ => .ok _ _
theorem oneOf_bd (ts : List Tp) (ws : List (List UInt8)) (i : Nat) : Bd (oneOfS ts ws i) := by
  unfold oneOfS; split
  · exact .ok _ _
  · exact .b120 _
theorem more_bd {α : Type} {ts : List Tp} {one : Nat → Rs α} (ho : ∀ i, Bd (one i)) : ∀ f acc i, Bd (moreS ts one f acc i)
  | 0, _, _ => .ok _ _
  | f + 1, _, _ => by unfold moreS; exact .ite ((ho _).and fun _ _ => more_bd ho f _ _) (.ok _ _)
theorem list_bd {α : Type} {ts : List Tp} {one : Nat → Rs α} (ho : ∀ i, Bd (one i)) (i : Nat) : Bd (listS ts one i) := (ho i).and fun _ _ => more_bd ho _ _ _
theorem agg_bd (ts : List Tp) (i : Nat) : Bd (aggS ts i) := (oneOf_bd ts _ i).and fun _ _ => .ite (.ok _ _) ((name_bd ts _).and fun _ _ => .ok _ _)
theorem value_bd (ts : List Tp) (i : Nat) : Bd (valueS ts i) := .ite ((num_bd ts i).and fun _ _ => .ok _ _) (.ite (text_bd ts i) ((oneOf_bd ts _ i).and fun _ _ => .ok _ _))
theorem test_bd (ts : List Tp) (i : Nat) : Bd (testS ts i) := (name_bd ts i).and fun _ _ => .ite ((text_bd ts _).and fun _ _ => .ok _ _) ((oneOf_bd ts _ _).and fun _ _ => (value_bd ts _).and fun _ _ => .ok _ _)
theorem fetch_bd (ts : List Tp) (i : Nat) : Bd (fetchS ts i) := (want_bd ts _ i).and fun _ _ => (name_bd ts _).and fun _ _ => .ite ((num_bd ts _).and fun _ _ => (want_bd ts _ _).and fun _ _ => (num_bd ts _).and fun _ _ => .ok _ _) (.ok _ _)
theorem chainL_bd {ts : List Tp} {x : List UInt8} {kind : Int} {p : PN} (hp : ∀ i ns, Bd (p i ns)) : ∀ f a i ns, Bd (chainL ts x kind p f a i ns)
  | 0, _, _, _ => .ok _ _
  | f + 1, _, _, _ => by unfold chainL; exact .ite ((hp _ _).and fun _ _ => chainL_bd hp f _ _ _) (.ok _ _)
theorem chain_bd {ts : List Tp} {x : List UInt8} {kind : Int} {p : PN} (hp : ∀ i ns, Bd (p i ns)) (i : Nat) (ns : List Np) : Bd (chainS ts x kind p i ns) := (hp i ns).and fun _ _ => chainL_bd hp _ _ _ _
theorem condB_bd {ts : List Tp} {p : PN} (hp : ∀ i ns, Bd (p i ns)) (i : Nat) (ns : List Np) : Bd (condB ts p i ns) := chain_bd (chain_bd hp) i ns
theorem inBr_bd {ts : List Tp} {o : Option PN} (hp : ∀ p, o = some p → ∀ i ns, Bd (p i ns)) (i : Nat) (ns : List Np) : Bd (inBr ts o i ns) := by
  unfold inBr
  split
  · cases o with
    | none => exact .b2 _
    | some p => exact (hp p rfl _ _).and fun _ _ => (want_bd ts _ _).and fun _ _ => .ok _ _
  · exact .b120 _
theorem notB_bd {ts : List Tp} {o : Option PN} (hp : ∀ p, o = some p → ∀ i ns, Bd (p i ns)) (i : Nat) (ns : List Np) : Bd (notB ts o i ns) := by
  unfold notB
  split
  · cases o with
    | none => exact .b2 _
    | some p => exact (hp p rfl _ _).and fun _ _ => .ok _ _
  · split
    · refine inBr_bd ?_ i ns
      intro q hq
      cases o with
      | none => cases hq
      | some p => cases hq; exact condB_bd (hp p rfl)
    · exact (test_bd ts i).and fun _ _ => .ok _ _
theorem not_bd (ts : List Tp) : ∀ d i ns, Bd (notS ts d i ns)
  | 0 => notB_bd (fun p h => by cases h)
  | d + 1 => notB_bd (fun p h => by cases h; exact not_bd ts d)
theorem cond_bd (ts : List Tp) (d i : Nat) (ns : List Np) : Bd (condS ts d i ns) := condB_bd (not_bd ts d) i ns
theorem stepB_bd {ts : List Tp} {c : PN} {o : Option PN} (hc : ∀ i ns, Bd (c i ns)) (hp : ∀ p, o = some p → ∀ i ns, Bd (p i ns)) (rows i : Nat) (ns : List Np) : Bd (stepB ts c o rows i ns) := by
  refine (oneOf_bd ts _ i).and fun k j => ?_
  split
  · exact (hc _ _).and fun _ _ => .ok _ _
  · exact (list_bd (name_bd ts) _).and fun _ _ => .ok _ _
  · exact (num_bd ts _).and fun _ _ => .ok _ _
  · exact .ite ((list_bd (agg_bd ts) _).and fun _ _ => .ok _ _) ((list_bd (name_bd ts) _).and fun _ _ => (want_bd ts _ _).and fun _ _ => (list_bd (agg_bd ts) _).and fun _ _ => .ok _ _)
  · exact (num_bd ts _).and fun _ _ => (want_bd ts _ _).and fun _ _ => (name_bd ts _).and fun _ _ => .ok _ _
  · exact (inBr_bd hp _ _).and fun _ _ => .ok _ _
  · exact (inBr_bd hp _ _).and fun _ _ => .ok _ _
theorem stepsL_bd {ts : List Tp} {s : Nat → Nat → List Np → Rs (Np × List Np)} (hs : ∀ a i ns, Bd (s a i ns)) : ∀ f a i ns, Bd (stepsL ts s f a i ns)
  | 0, _, _, _ => .ok _ _
  | f + 1, _, _, _ => by unfold stepsL; exact .ite ((hs _ _ _).and fun _ _ => stepsL_bd hs f _ _ _) (.ok _ _)
theorem queryB_bd {ts : List Tp} {c : PN} {o : Option PN} (hc : ∀ i ns, Bd (c i ns)) (hp : ∀ p, o = some p → ∀ i ns, Bd (p i ns)) (i : Nat) (ns : List Np) : Bd (queryB ts c o i ns) :=
  (fetch_bd ts i).and fun _ _ => stepsL_bd (fun a i ns => stepB_bd hc hp a i ns) _ _ _ _
theorem query_bd (ts : List Tp) : ∀ d i ns, Bd (queryS ts d i ns)
  | 0 => queryB_bd (cond_bd ts 0) (fun p h => by cases h)
  | d + 1 => queryB_bd (cond_bd ts (d + 1)) (fun p h => by cases h; exact query_bd ts d)
def ents (new : List Np) : List Int := new.flatMap (·.l)
/- New nodes, the first of them of number k. -/
structure Tree (k : Nat) (new : List Np) : Prop where
  ne : 0 < new.length
  low : ∀ t x, new[t]? = some x → ∀ e ∈ x.l, ∃ j : Nat, e = (j : Int) ∧ k ≤ j ∧ j < k + t
  one : ∀ j : Nat, k ≤ j → j + 1 < k + new.length → (ents new).count (j : Int) = 1
theorem Tree.range {k : Nat} {new : List Np} (h : Tree k new) : ∀ e ∈ ents new, ∃ j : Nat, e = (j : Int) ∧ k ≤ j ∧ j + 1 < k + new.length := by
  intro e he
  obtain ⟨x, hx, hm⟩ := List.mem_flatMap.1 he
  obtain ⟨t, ht, rfl⟩ := List.getElem_of_mem hx
  obtain ⟨j, h1, h2, h3⟩ := h.low t _ (List.getElem?_eq_getElem ht) e hm
  exact ⟨j, h1, h2, by omega⟩
theorem Tree.none {k : Nat} {new : List Np} (h : Tree k new) {j : Nat} (hj : j < k ∨ k + new.length ≤ j + 1) : (ents new).count (j : Int) = 0 := by
  rw [List.count_eq_zero]
  intro hm
  obtain ⟨i, h1, h2, h3⟩ := h.range _ hm
  omega
theorem tree_leaf (k : Nat) {x : Np} (h : x.l = []) : Tree k [x] :=
  ⟨by simp, fun t y hy e he => by
    cases t with
    | zero => simp at hy; subst hy; rw [h] at he; cases he
    | succ t => simp at hy, fun j h1 h2 => by simp at h2; omega⟩
theorem ents_app (a b : List Np) : ents (a ++ b) = ents a ++ ents b := by simp [ents]
theorem tree_one {k : Nat} {a : List Np} {x : Np} (h : Tree k a) (hx : x.l = [((k + a.length - 1 : Nat) : Int)]) : Tree k (a ++ [x]) := by
  have hn := h.ne
  refine ⟨by simp, fun t y hy e he => ?_, fun j h1 h2 => ?_⟩
  · rcases Nat.lt_or_ge t a.length with ht | ht
    · rw [List.getElem?_append_left ht] at hy; exact h.low t y hy e he
    · rw [List.getElem?_append_right ht] at hy
      cases e' : t - a.length with
      | zero =>
        rw [e'] at hy; simp at hy; subst hy; rw [hx] at he; simp at he
        exact ⟨k + a.length - 1, he, by omega, by omega⟩
      | succ n => rw [e'] at hy; simp at hy
  · rw [ents_app, List.count_append]
    have e2 : ents [x] = [((k + a.length - 1 : Nat) : Int)] := by simp [ents, hx]
    rw [e2]
    simp only [List.length_append, List.length_cons, List.length_nil] at h2
    by_cases hj : j + 1 < k + a.length
    · rw [h.one j h1 hj, List.count_eq_zero.2 (by simp; omega)]
    · rw [h.none (j := j) (by omega), show j = k + a.length - 1 by omega]
      simp
theorem tree_two {k : Nat} {a c : List Np} {x : Np} (h : Tree k a) (hc : Tree (k + a.length) c) (hx : x.l = [((k + a.length - 1 : Nat) : Int), ((k + a.length + c.length - 1 : Nat) : Int)]) : Tree k (a ++ c ++ [x]) := by
  have hn := h.ne
  have hm := hc.ne
  refine ⟨by simp; omega, fun t y hy e he => ?_, fun j h1 h2 => ?_⟩
  · rcases Nat.lt_or_ge t a.length with ht | ht
    · rw [List.append_assoc, List.getElem?_append_left ht] at hy; exact h.low t y hy e he
    · rw [List.append_assoc, List.getElem?_append_right ht] at hy
      rcases Nat.lt_or_ge (t - a.length) c.length with ht2 | ht2
      · rw [List.getElem?_append_left ht2] at hy
        obtain ⟨j, e1, e2, e3⟩ := hc.low _ y hy e he
        exact ⟨j, e1, by omega, by omega⟩
      · rw [List.getElem?_append_right ht2] at hy
        cases e' : t - a.length - c.length with
        | zero =>
          rw [e'] at hy; simp at hy; subst hy; rw [hx] at he; simp at he
          rcases he with he | he
          · exact ⟨k + a.length - 1, he, by omega, by omega⟩
          · exact ⟨k + a.length + c.length - 1, he, by omega, by omega⟩
        | succ n => rw [e'] at hy; simp at hy
  · rw [ents_app, ents_app, List.count_append, List.count_append]
    have e2 : ents [x] = [((k + a.length - 1 : Nat) : Int), ((k + a.length + c.length - 1 : Nat) : Int)] := by simp [ents, hx]
    rw [e2]
    simp only [List.length_append, List.length_cons, List.length_nil] at h2
    have e3 : ∀ p q : Nat, ([((p : Nat) : Int), ((q : Nat) : Int)] : List Int).count (j : Int) = (if p = j then 1 else 0) + (if q = j then 1 else 0) := by
      intro p q
      simp only [List.count_cons, List.count_nil, beq_iff_eq, Int.ofNat_inj]
      omega
    rw [e3]
    by_cases hj : j + 1 < k + a.length
    · rw [h.one j h1 hj, hc.none (j := j) (by omega), if_neg (by omega), if_neg (by omega)]
    · by_cases hj2 : j + 1 = k + a.length
      · rw [h.none (j := j) (by omega), hc.none (j := j) (by omega), if_pos (by omega), if_neg (by omega)]
      · rw [h.none (j := j) (by omega)]
        by_cases hj3 : j + 1 < k + a.length + c.length
        · rw [hc.one j (by omega) hj3, if_neg (by omega), if_neg (by omega)]
        · rw [hc.none (j := j) (by omega), if_neg (by omega), if_pos (by omega)]
/- What lays nodes lays a tree behind those that were there, and names its last. -/
def GoT (p : PN) : Prop := ∀ i ns r j, p i ns = .ok r j → ∃ new, r.2 = ns ++ new ∧ Tree ns.length new ∧ r.1 + 1 = r.2.length
theorem chainL_t {ts : List Tp} {x : List UInt8} {kind : Int} {p : PN} (hp : GoT p) : ∀ f a i base A r j, Tree base.length A → a + 1 = (base ++ A).length → chainL ts x kind p f a i (base ++ A) = .ok r j → ∃ new, r.2 = base ++ new ∧ Tree base.length new ∧ r.1 + 1 = r.2.length
  | 0, a, i, base, A, r, j, hA, ha, h => by simp [chainL] at h; obtain ⟨rfl, rfl⟩ := h; exact ⟨A, rfl, hA, ha⟩
  | f + 1, a, i, base, A, r, j, hA, ha, h => by
    unfold chainL at h
    split at h
    · obtain ⟨y, i1, h1, h2⟩ := and_ok h
      obtain ⟨C, e1, e2, e3⟩ := hp _ _ _ _ h1
      have hn := hA.ne
      have hm := e2.ne
      simp only [List.length_append] at ha e2
      rw [e1] at h2 e3
      simp only [List.length_append] at e3
      rw [show base ++ A ++ C ++ [({ n0 with kind := kind, l := [(a : Int), (y.1 : Int)] } : Np)] = base ++ (A ++ C ++ [({ n0 with kind := kind, l := [(a : Int), (y.1 : Int)] } : Np)]) by simp] at h2
      exact chainL_t hp f _ _ base _ _ _ (tree_two hA e2 (by show [(a : Int), (y.1 : Int)] = _; rw [show a = base.length + A.length - 1 by omega, show y.1 = base.length + A.length + C.length - 1 by omega])) (by simp; omega) h2
    · cases h; exact ⟨A, rfl, hA, ha⟩
theorem chain_t {ts : List Tp} {x : List UInt8} {kind : Int} {p : PN} (hp : GoT p) : GoT (chainS ts x kind p) := by
  intro i ns r j h
  obtain ⟨y, i1, h1, h2⟩ := and_ok h
  obtain ⟨A, e1, e2, e3⟩ := hp _ _ _ _ h1
  rw [e1] at h2 e3
  exact chainL_t hp _ _ _ ns A r j e2 e3 h2
theorem condB_t {ts : List Tp} {p : PN} (hp : GoT p) : GoT (condB ts p) := chain_t (chain_t hp)
theorem inBr_t {ts : List Tp} {o : Option PN} (hp : ∀ p, o = some p → GoT p) : GoT (inBr ts o) := by
  intro i ns r j h
  unfold inBr at h
  split at h
  · cases o with
    | none => cases h
    | some p =>
      obtain ⟨y, i1, h1, h2⟩ := and_ok h
      obtain ⟨_, i2, h3, h4⟩ := and_ok h2
      cases h4; exact hp p rfl _ _ _ _ h1
  · cases h
theorem test_l {ts : List Tp} {i j : Nat} {x : Np} (h : testS ts i = .ok x j) : x.l = [] := by
  obtain ⟨k, i1, h1, h2⟩ := and_ok h
  split at h2
  · obtain ⟨y, i2, h3, h4⟩ := and_ok h2
    cases h4; rfl
  · obtain ⟨y, i2, h3, h4⟩ := and_ok h2
    obtain ⟨z, i3, h5, h6⟩ := and_ok h4
    cases h6; rfl
theorem fetch_l {ts : List Tp} {i j : Nat} {x : Np} (h : fetchS ts i = .ok x j) : x.l = [] := by
  obtain ⟨_, i1, h1, h2⟩ := and_ok h
  obtain ⟨_, i2, h3, h4⟩ := and_ok h2
  split at h4
  · obtain ⟨_, i3, h5, h6⟩ := and_ok h4
    obtain ⟨_, i4, h7, h8⟩ := and_ok h6
    obtain ⟨_, i5, h9, h10⟩ := and_ok h8
    cases h10; rfl
  · cases h4; rfl
theorem notB_t {ts : List Tp} {o : Option PN} (hp : ∀ p, o = some p → GoT p) : GoT (notB ts o) := by
  intro i ns r j h
  unfold notB at h
  split at h
  · cases o with
    | none => cases h
    | some p =>
      obtain ⟨y, i1, h1, h2⟩ := and_ok h
      obtain ⟨A, e1, e2, e3⟩ := hp p rfl _ _ _ _ h1
      have hn := e2.ne
      cases h2
      refine ⟨A ++ [{ n0 with kind := 13, l := [(y.1 : Int)] }], by simp [e1], tree_one e2 ?_, by simp⟩
      show [(y.1 : Int)] = _
      rw [e1] at e3
      simp only [List.length_append] at e3
      rw [show y.1 = ns.length + A.length - 1 by omega]
  · split at h
    · refine inBr_t ?_ _ _ _ _ h
      intro q hq
      cases o with
      | none => cases hq
      | some p => cases hq; exact condB_t (hp p rfl)
    · obtain ⟨y, i1, h1, h2⟩ := and_ok h
      cases h2
      exact ⟨[y], rfl, tree_leaf _ (test_l h1), by simp⟩
theorem not_t (ts : List Tp) : ∀ d, GoT (notS ts d)
  | 0 => notB_t (fun p h => by cases h)
  | d + 1 => notB_t (fun p h => by cases h; exact not_t ts d)
theorem cond_t (ts : List Tp) (d : Nat) : GoT (condS ts d) := condB_t (not_t ts d)
/- A step: one node more, or a tree and one. -/
theorem stepB_t {ts : List Tp} {c : PN} {o : Option PN} (hc : GoT c) (hp : ∀ p, o = some p → GoT p) (a i : Nat) (ns : List Np) (r : Np × List Np) (j : Nat) (h : stepB ts c o a i ns = .ok r j) :
    (r.2 = ns ∧ r.1.l = [(a : Int)]) ∨ ∃ C, r.2 = ns ++ C ∧ Tree ns.length C ∧ r.1.l = [(a : Int), ((ns.length + C.length - 1 : Nat) : Int)] := by
  obtain ⟨k, i1, h1, h2⟩ := and_ok h
  have two : ∀ (y : Nat × List Np), (∃ new, y.2 = ns ++ new ∧ Tree ns.length new ∧ y.1 + 1 = y.2.length) → ∃ C, y.2 = ns ++ C ∧ Tree ns.length C ∧ [(a : Int), (y.1 : Int)] = [(a : Int), ((ns.length + C.length - 1 : Nat) : Int)] := by
    rintro y ⟨C, e1, e2, e3⟩
    refine ⟨C, e1, e2, ?_⟩
    rw [e1] at e3
    simp only [List.length_append] at e3
    rw [show y.1 = ns.length + C.length - 1 by omega]
  split at h2
  · obtain ⟨y, i2, h3, h4⟩ := and_ok h2
    cases h4; exact .inr (two y (hc _ _ _ _ h3))
  · obtain ⟨y, i2, h3, h4⟩ := and_ok h2
    cases h4; exact .inl ⟨rfl, rfl⟩
  · obtain ⟨y, i2, h3, h4⟩ := and_ok h2
    cases h4; exact .inl ⟨rfl, rfl⟩
  · split at h2
    · obtain ⟨y, i2, h3, h4⟩ := and_ok h2
      cases h4; exact .inl ⟨rfl, rfl⟩
    · obtain ⟨y, i2, h3, h4⟩ := and_ok h2
      obtain ⟨_, i3, h5, h6⟩ := and_ok h4
      obtain ⟨_, i4, h7, h8⟩ := and_ok h6
      cases h8; exact .inl ⟨rfl, rfl⟩
  · obtain ⟨y, i2, h3, h4⟩ := and_ok h2
    obtain ⟨_, i3, h5, h6⟩ := and_ok h4
    obtain ⟨_, i4, h7, h8⟩ := and_ok h6
    cases h8; exact .inl ⟨rfl, rfl⟩
  · obtain ⟨y, i2, h3, h4⟩ := and_ok h2
    cases h4; exact .inr (two y (inBr_t hp _ _ _ _ h3))
  · obtain ⟨y, i2, h3, h4⟩ := and_ok h2
    cases h4; exact .inr (two y (inBr_t hp _ _ _ _ h3))
theorem stepsL_t {ts : List Tp} {c : PN} {o : Option PN} (hc : GoT c) (hp : ∀ p, o = some p → GoT p) : ∀ f a i base A r j, Tree base.length A → a + 1 = (base ++ A).length → stepsL ts (stepB ts c o) f a i (base ++ A) = .ok r j → ∃ new, r.2 = base ++ new ∧ Tree base.length new ∧ r.1 + 1 = r.2.length
  | 0, a, i, base, A, r, j, hA, ha, h => by simp [stepsL] at h; obtain ⟨rfl, rfl⟩ := h; exact ⟨A, rfl, hA, ha⟩
  | f + 1, a, i, base, A, r, j, hA, ha, h => by
    unfold stepsL at h
    split at h
    · obtain ⟨y, i1, h1, h2⟩ := and_ok h
      have hn := hA.ne
      simp only [List.length_append] at ha
      rcases stepB_t hc hp _ _ _ _ _ h1 with ⟨e1, e2⟩ | ⟨C, e1, e2, e3⟩
      · rw [e1, List.append_assoc] at h2
        refine stepsL_t hc hp f _ _ base (A ++ [y.1]) _ _ (tree_one hA ?_) (by simp; omega) h2
        rw [e2, show a = base.length + A.length - 1 by omega]
      · have hm := e2.ne
        simp only [List.length_append] at e2 e3
        rw [e1, show base ++ A ++ C ++ [y.1] = base ++ (A ++ C ++ [y.1]) by simp] at h2
        refine stepsL_t hc hp f _ _ base (A ++ C ++ [y.1]) _ _ (tree_two hA e2 ?_) (by simp; omega) h2
        rw [e3, show a = base.length + A.length - 1 by omega]
    · cases h; exact ⟨A, rfl, hA, ha⟩
theorem queryB_t {ts : List Tp} {c : PN} {o : Option PN} (hc : GoT c) (hp : ∀ p, o = some p → GoT p) : GoT (queryB ts c o) := by
  intro i ns r j h
  obtain ⟨y, i1, h1, h2⟩ := and_ok h
  exact stepsL_t hc hp _ _ _ ns [y] r j (tree_leaf _ (fetch_l h1)) (by simp) h2
theorem query_t (ts : List Tp) : ∀ d, GoT (queryS ts d)
  | 0 => queryB_t (cond_t ts 0) (fun p h => by cases h)
  | d + 1 => queryB_t (cond_t ts (d + 1)) (fun p h => by cases h; exact query_t ts d)
theorem parse_tree {ts : List Tp} (h : (parseS ts).2.2 = 0) : Tree 0 (parseS ts).1 ∧ (parseS ts).1.length ≤ 128 := by
  unfold parseS wholeS at h ⊢
  split at h
  · simp at h
  · rename_i hl
    rw [if_neg hl]
    cases hq : queryS ts 16 0 [] with
    | bad i c =>
      rw [hq] at h
      exfalso
      exact query_bd ts 16 0 [] i c hq h
    | ok r j =>
      rw [hq] at h
      simp only at h ⊢
      split at h
      · simp at h
      · split at h
        · simp at h
        · rename_i h1 h2
          rw [if_neg h1, if_neg h2]
          obtain ⟨new, e1, e2, -⟩ := query_t ts 16 _ _ _ _ hq
          simp at e1
          subst e1
          exact ⟨e2, Nat.le_of_not_lt h2⟩
end Go.Proofs.YtmpjmimhoikknaaGreatDoor
namespace Go.Proofs.YtmpjmimhoikknaaGreatDoor

section
variable {ts us : List Tp} {b : Tp}
/- The tokens behind begin with a bar. -/
def Bar (us : List Tp) : Prop := ∃ b r, us = b :: r ∧ b.kind = 4 ∧ b.s = wBar
theorem isW_app_lt {i : Nat} (h : i < ts.length) (x : List UInt8) : isW (ts ++ us) i x = isW ts i x := by
  unfold isW; rw [List.getElem?_append_left h]
theorem isK_app_lt {i : Nat} (h : i < ts.length) (k : Int) : isK (ts ++ us) i k = isK ts i k := by
  unfold isK; rw [List.getElem?_append_left h]
theorem here_app_lt {i : Nat} (h : i < ts.length) : hereS (ts ++ us) i = hereS ts i := by
  unfold hereS; rw [List.getElem?_append_left h]
theorem isW_app (k : Nat) (x : List UInt8) : isW (ts ++ us) (ts.length + k) x = isW us k x := by
  unfold isW; rw [List.getElem?_append_right (by omega), Nat.add_sub_cancel_left]
theorem isK_app (k : Nat) (x : Int) : isK (ts ++ us) (ts.length + k) x = isK us k x := by
  unfold isK; rw [List.getElem?_append_right (by omega), Nat.add_sub_cancel_left]
theorem here_app (k : Nat) : hereS (ts ++ us) (ts.length + k) = hereS us k := by
  unfold hereS; rw [List.getElem?_append_right (by omega), Nat.add_sub_cancel_left]
theorem isW_bar (hb : Bar us) {i : Nat} (hi : i ≤ ts.length) {x : List UInt8} (hx : ¬ x = wBar) : isW (ts ++ us) i x = isW ts i x := by
  rcases Nat.lt_or_ge i ts.length with h | h
  · exact isW_app_lt h x
  · obtain rfl : i = ts.length := by omega
    obtain ⟨b, r, rfl, h1, h2⟩ := hb
    have e1 := isW_app (ts := ts) (us := b :: r) 0 x
    rw [Nat.add_zero] at e1
    rw [e1]
    have e2 : isW ts ts.length x = false := by unfold isW; rw [List.getElem?_eq_none (by omega)]
    rw [e2]
    simp only [isW, List.getElem?_cons_zero, h2]
    simp
    intro _ e; exact hx e.symm
theorem isK_bar (hb : Bar us) {i : Nat} (hi : i ≤ ts.length) {k : Int} (hk : ¬ k = 4) : isK (ts ++ us) i k = isK ts i k := by
  rcases Nat.lt_or_ge i ts.length with h | h
  · exact isK_app_lt h k
  · obtain rfl : i = ts.length := by omega
    obtain ⟨b, r, rfl, h1, h2⟩ := hb
    have e1 := isK_app (ts := ts) (us := b :: r) 0 k
    rw [Nat.add_zero] at e1
    rw [e1]
    have e2 : isK ts ts.length k = false := by unfold isK; rw [List.getElem?_eq_none (by omega)]
    rw [e2]
    simp only [isK, List.getElem?_cons_zero, h1]
    simp
    omega
/- What is read is read with them, too. -/
def Sm (ts : List Tp) {α : Type} (f g : Nat → Rs α) : Prop := ∀ i x j, i ≤ ts.length → f i = .ok x j → g i = .ok x j
theorem take_sm (hb : Bar us) {k : Int} (hk : ¬ k = 4) : Sm ts (takeS ts k) (takeS (ts ++ us) k) := by
  intro i x j hi h
  unfold takeS at h ⊢
  rw [isK_bar hb hi hk]
  split at h
  · rename_i h1
    rw [if_pos h1, here_app_lt (isK_lt h1)]; exact h
  · cases h
theorem want_sm (hb : Bar us) {x : List UInt8} (hx : ¬ x = wBar) : Sm ts (wantS ts x) (wantS (ts ++ us) x) := by
  intro i y j hi h
  unfold wantS at h ⊢
  rw [isW_bar hb hi hx]; exact h
theorem name_sm (hb : Bar us) : Sm ts (nameS ts) (nameS (ts ++ us)) := by
  intro i x j hi h
  obtain ⟨t, i1, h1, h2⟩ := and_ok h
  unfold nameS; rw [take_sm hb (by decide) _ _ _ hi h1]; exact h2
theorem num_sm (hb : Bar us) : Sm ts (numS' ts) (numS' (ts ++ us)) := by
  intro i x j hi h
  obtain ⟨t, i1, h1, h2⟩ := and_ok h
  unfold numS'; rw [take_sm hb (by decide) _ _ _ hi h1]; exact h2
theorem text_sm (hb : Bar us) : Sm ts (textV ts) (textV (ts ++ us)) := by
  intro i x j hi h
  obtain ⟨t, i1, h1, h2⟩ := and_ok h
  unfold textV; rw [take_sm hb (by decide) _ _ _ hi h1]; exact h2
theorem idx_sm (hb : Bar us) {i : Nat} (hi : i ≤ ts.length) : ∀ (ws : List (List UInt8)) (k : Nat), ¬ wBar ∈ ws → idxOf (ts ++ us) i ws k = idxOf ts i ws k
  | [], _, _ => rfl
  | x :: r, k, h => by
    unfold idxOf
    rw [isW_bar hb hi (fun e => h (by rw [e]; exact List.mem_cons_self)), idx_sm hb hi r (k + 1) (fun e => h (List.mem_cons_of_mem _ e))]
theorem oneOf_sm (hb : Bar us) {ws : List (List UInt8)} (hw : ¬ wBar ∈ ws) : Sm ts (oneOfS ts ws) (oneOfS (ts ++ us) ws) := by
  intro i x j hi h
  unfold oneOfS at h ⊢
  rw [idx_sm hb hi ws 0 hw]; exact h
theorem more_sm (hb : Bar us) {α : Type} {f g : Nat → Rs α} (hf : Sm ts f g) (hg : Go1 ts 1 f) : ∀ F F' acc i x j, i ≤ ts.length → ts.length ≤ F + i → ts.length < F' + i → moreS ts f F acc i = .ok x j → moreS (ts ++ us) g F' acc i = .ok x j
  | 0, F', acc, i, x, j, hi, h1, h2, h => by
    simp [moreS] at h
    obtain ⟨rfl, rfl⟩ := h
    obtain ⟨F'', rfl⟩ : ∃ n, F' = n + 1 := ⟨F' - 1, by omega⟩
    have e : isW ts i wComma = false := by unfold isW; rw [List.getElem?_eq_none (by omega)]
    rw [moreS, isW_bar hb hi (by decide), e]; rfl
  | F + 1, F', acc, i, x, j, hi, h1, h2, h => by
    obtain ⟨F'', rfl⟩ : ∃ n, F' = n + 1 := ⟨F' - 1, by omega⟩
    rw [moreS] at h ⊢
    rw [isW_bar hb hi (by decide)]
    split at h
    · rename_i hw
      rw [if_pos hw]
      have hlt := isW_lt hw
      obtain ⟨y, i1, h3, h4⟩ := and_ok h
      rw [hf _ _ _ (by omega) h3]
      have g1 := hg _ _ _ h3
      exact more_sm hb hf hg F F'' _ _ _ _ g1.2 (by omega) (by omega) h4
    · rename_i hw; rw [if_neg hw]; exact h
theorem list_sm (hb : Bar us) {α : Type} {f g : Nat → Rs α} (hf : Sm ts f g) (hg : Go1 ts 1 f) : Sm ts (listS ts f) (listS (ts ++ us) g) := by
  intro i x j hi h
  obtain ⟨y, i1, h1, h2⟩ := and_ok h
  have g1 := hg _ _ _ h1
  unfold listS
  rw [hf _ _ _ hi h1]
  have hl : ts.length < (ts ++ us).length := by obtain ⟨b, r, e, -, -⟩ := hb; rw [e]; simp
  exact more_sm hb hf hg _ _ _ _ _ _ g1.2 (by omega) (by omega) h2
theorem agg_sm (hb : Bar us) : Sm ts (aggS ts) (aggS (ts ++ us)) := by
  intro i x j hi h
  obtain ⟨k, i1, h1, h2⟩ := and_ok h
  have g1 := oneOf_go ts _ _ _ _ h1
  unfold aggS
  rw [oneOf_sm hb (by decide) _ _ _ hi h1]
  show (if k = 0 then _ else _) = _
  split at h2
  · rename_i hk; rw [if_pos hk]; exact h2
  · rename_i hk; rw [if_neg hk]
    obtain ⟨y, i2, h3, h4⟩ := and_ok h2
    rw [name_sm hb _ _ _ g1.2 h3]; exact h4
theorem value_sm (hb : Bar us) : Sm ts (valueS ts) (valueS (ts ++ us)) := by
  intro i x j hi h
  unfold valueS at h ⊢
  rw [isK_bar hb hi (by decide), isK_bar hb hi (by decide)]
  split at h
  · rename_i hk; rw [if_pos hk]
    obtain ⟨y, i2, h3, h4⟩ := and_ok h
    rw [num_sm hb _ _ _ hi h3]; exact h4
  · rename_i hk; rw [if_neg hk]
    split at h
    · rename_i hk2; rw [if_pos hk2]; exact text_sm hb _ _ _ hi h
    · rename_i hk2; rw [if_neg hk2]
      obtain ⟨y, i2, h3, h4⟩ := and_ok h
      rw [oneOf_sm hb (by decide) _ _ _ hi h3]; exact h4
theorem test_sm (hb : Bar us) : Sm ts (testS ts) (testS (ts ++ us)) := by
  intro i x j hi h
  obtain ⟨k, i1, h1, h2⟩ := and_ok h
  have g1 := name_go ts _ _ _ h1
  unfold testS
  rw [name_sm hb _ _ _ hi h1]
  show (if _ then _ else _) = _
  rw [isW_bar hb g1.2 (by decide)]
  split at h2
  · rename_i hw; rw [if_pos hw]
    obtain ⟨y, i2, h3, h4⟩ := and_ok h2
    have := isW_lt hw
    rw [text_sm hb _ _ _ (by omega) h3]; exact h4
  · rename_i hw; rw [if_neg hw]
    obtain ⟨y, i2, h3, h4⟩ := and_ok h2
    obtain ⟨z, i3, h5, h6⟩ := and_ok h4
    have g2 := oneOf_go ts _ _ _ _ h3
    rw [oneOf_sm hb (by decide) _ _ _ g1.2 h3]
    show (valueS (ts ++ us) i2).and _ = _
    rw [value_sm hb _ _ _ g2.2 h5]; exact h6
theorem fetch_sm (hb : Bar us) : Sm ts (fetchS ts) (fetchS (ts ++ us)) := by
  intro i x j hi h
  obtain ⟨_, i1, h1, h2⟩ := and_ok h
  obtain ⟨_, i2, h3, h4⟩ := and_ok h2
  have g1 := want_go ts _ _ _ _ h1
  have g2 := name_go ts _ _ _ h3
  unfold fetchS
  rw [want_sm hb (by decide) _ _ _ hi h1]
  show (nameS (ts ++ us) i1).and _ = _
  rw [name_sm hb _ _ _ g1.2 h3]
  show (if _ then _ else _) = _
  rw [isW_bar hb g2.2 (by decide)]
  split at h4
  · rename_i hw; rw [if_pos hw]
    have := isW_lt hw
    obtain ⟨_, i3, h5, h6⟩ := and_ok h4
    obtain ⟨_, i4, h7, h8⟩ := and_ok h6
    obtain ⟨_, i5, h9, h10⟩ := and_ok h8
    have g3 := num_go ts _ _ _ h5
    have g4 := want_go ts _ _ _ _ h7
    rw [num_sm hb _ _ _ (by omega) h5]
    show (wantS (ts ++ us) wTo i3).and _ = _
    rw [want_sm hb (by decide) _ _ _ g3.2 h7]
    show (numS' (ts ++ us) i4).and _ = _
    rw [num_sm hb _ _ _ g4.2 h9]; exact h10
  · rename_i hw; rw [if_neg hw]; exact h4
def SmN (ts : List Tp) (p q : PN) : Prop := ∀ i ns r j, i ≤ ts.length → p i ns = .ok r j → q i ns = .ok r j
def SmQ (ts : List Tp) (p q : PN) : Prop := ∀ i ns r j, i ≤ ts.length → p i ns = .ok r j → j < ts.length → q i ns = .ok r j
theorem chainL_sm (hb : Bar us) {x : List UInt8} (hx : ¬ x = wBar) {kind : Int} {p q : PN} (hp : SmN ts p q) (hg : GoN ts p) : ∀ F F' a i ns r j, i ≤ ts.length → ts.length ≤ F + i → ts.length < F' + i → chainL ts x kind p F a i ns = .ok r j → chainL (ts ++ us) x kind q F' a i ns = .ok r j
  | 0, F', a, i, ns, r, j, hi, h1, h2, h => by
    simp [chainL] at h
    obtain ⟨rfl, rfl⟩ := h
    obtain ⟨F'', rfl⟩ : ∃ n, F' = n + 1 := ⟨F' - 1, by omega⟩
    have e : isW ts i x = false := by unfold isW; rw [List.getElem?_eq_none (by omega)]
    rw [chainL, isW_bar hb hi hx, e]; rfl
  | F + 1, F', a, i, ns, r, j, hi, h1, h2, h => by
    obtain ⟨F'', rfl⟩ : ∃ n, F' = n + 1 := ⟨F' - 1, by omega⟩
    rw [chainL] at h ⊢
    rw [isW_bar hb hi hx]
    split at h
    · rename_i hw
      rw [if_pos hw]
      have hlt := isW_lt hw
      obtain ⟨y, i1, h3, h4⟩ := and_ok h
      rw [hp _ _ _ _ (by omega) h3]
      have g1 := hg _ _ _ _ h3
      exact chainL_sm hb hx hp hg F F'' _ _ _ _ _ g1.2.1 (by omega) (by omega) h4
    · rename_i hw; rw [if_neg hw]; exact h
theorem chain_sm (hb : Bar us) {x : List UInt8} (hx : ¬ x = wBar) {kind : Int} {p q : PN} (hp : SmN ts p q) (hg : GoN ts p) : SmN ts (chainS ts x kind p) (chainS (ts ++ us) x kind q) := by
  intro i ns r j hi h
  obtain ⟨y, i1, h1, h2⟩ := and_ok h
  have g1 := hg _ _ _ _ h1
  unfold chainS
  rw [hp _ _ _ _ hi h1]
  have hl : ts.length < (ts ++ us).length := by obtain ⟨b, r, e, -, -⟩ := hb; rw [e]; simp
  exact chainL_sm hb hx hp hg _ _ _ _ _ _ _ g1.2.1 (by omega) (by omega) h2
theorem condB_sm (hb : Bar us) {p q : PN} (hp : SmN ts p q) (hg : GoN ts p) : SmN ts (condB ts p) (condB (ts ++ us) q) := chain_sm hb (by decide) (chain_sm hb (by decide) hp hg) (both_go hg)
theorem inBr_sm (hb : Bar us) {o o' : Option PN} (ho : ∀ p, o = some p → ∃ q, o' = some q ∧ SmQ ts p q) : SmN ts (inBr ts o) (inBr (ts ++ us) o') := by
  intro i ns r j hi h
  unfold inBr at h ⊢
  rw [isW_bar hb hi (by decide)]
  split at h
  · rename_i hw; rw [if_pos hw]
    have hlt := isW_lt hw
    cases o with
    | none => cases h
    | some p =>
      obtain ⟨q, rfl, hq⟩ := ho p rfl
      obtain ⟨y, i1, h1, h2⟩ := and_ok h
      obtain ⟨_, i2, h3, h4⟩ := and_ok h2
      have hl : i1 < ts.length := by have := want_go ts _ _ _ _ h3; omega
      show (q (i + 1) ns).and _ = _
      rw [hq _ _ _ _ (by omega) h1 hl]
      show (wantS (ts ++ us) wShut i1).and _ = _
      rw [want_sm hb (by decide) _ _ _ (by omega) h3]; exact h4
  · cases h
theorem notB_sm (hb : Bar us) {o o' : Option PN} (ho : ∀ p, o = some p → ∃ q, o' = some q ∧ SmN ts p q ∧ GoN ts p) : SmN ts (notB ts o) (notB (ts ++ us) o') := by
  intro i ns r j hi h
  unfold notB at h ⊢
  rw [isW_bar hb hi (by decide), isW_bar hb hi (by decide)]
  split at h
  · rename_i hw; rw [if_pos hw]
    have hlt := isW_lt hw
    cases o with
    | none => cases h
    | some p =>
      obtain ⟨q, rfl, hq, -⟩ := ho p rfl
      obtain ⟨y, i1, h1, h2⟩ := and_ok h
      show (q (i + 1) ns).and _ = _
      rw [hq _ _ _ _ (by omega) h1]; exact h2
  · rename_i hw; rw [if_neg hw]
    split at h
    · rename_i hw2; rw [if_pos hw2]
      refine inBr_sm hb ?_ _ _ _ _ hi h
      intro c hc
      cases o with
      | none => cases hc
      | some p =>
        cases hc
        obtain ⟨q, rfl, hq, hg⟩ := ho p rfl
        exact ⟨_, rfl, fun i ns r j hi h _ => condB_sm hb hq hg _ _ _ _ hi h⟩
    · rename_i hw2; rw [if_neg hw2]
      obtain ⟨y, i1, h1, h2⟩ := and_ok h
      rw [test_sm hb _ _ _ hi h1]; exact h2
theorem not_sm (hb : Bar us) : ∀ d, SmN ts (notS ts d) (notS (ts ++ us) d)
  | 0 => notB_sm hb (fun p h => by cases h)
  | d + 1 => notB_sm hb (fun p h => by cases h; exact ⟨_, rfl, not_sm hb d, not_go ts d⟩)
theorem cond_sm (hb : Bar us) (d : Nat) : SmN ts (condS ts d) (condS (ts ++ us) d) := condB_sm hb (not_sm hb d) (not_go ts d)
theorem step_sm (hb : Bar us) {c c' : PN} {o o' : Option PN} (hc : SmN ts c c') (ho : ∀ p, o = some p → ∃ q, o' = some q ∧ SmQ ts p q) (a i : Nat) (ns : List Np) (r : Np × List Np) (j : Nat) (hi : i ≤ ts.length) (h : stepB ts c o a i ns = .ok r j) : stepB (ts ++ us) c' o' a i ns = .ok r j := by
  obtain ⟨k, i1, h1, h2⟩ := and_ok h
  have g1 := (oneOf_go ts _ _ _ _ h1).2
  unfold stepB
  rw [oneOf_sm hb (by decide) _ _ _ hi h1]
  simp only [Rs.and]
  split at h2
  · obtain ⟨y, i2, h3, h4⟩ := and_ok h2
    simp only [hc _ _ _ _ g1 h3]; exact h4
  · obtain ⟨y, i2, h3, h4⟩ := and_ok h2
    simp only [list_sm hb (name_sm hb) (name_go ts) _ _ _ g1 h3]; exact h4
  · obtain ⟨y, i2, h3, h4⟩ := and_ok h2
    simp only [num_sm hb _ _ _ g1 h3]; exact h4
  · simp only [isW_bar hb g1 (x := wColon) (by decide)]
    split at h2
    · rename_i hw; simp only [hw, if_true]
      have := isW_lt hw
      obtain ⟨y, i2, h3, h4⟩ := and_ok h2
      simp only [list_sm hb (agg_sm hb) (agg_go ts) _ _ _ (by omega) h3]; exact h4
    · rename_i hw
      rw [if_neg hw]
      obtain ⟨y, i2, h3, h4⟩ := and_ok h2
      obtain ⟨_, i3, h5, h6⟩ := and_ok h4
      obtain ⟨_, i4, h7, h8⟩ := and_ok h6
      have g2 := (list_go (name_go ts) _ _ _ h3).2
      have g3 := (want_go ts _ _ _ _ h5).2
      simp only [list_sm hb (name_sm hb) (name_go ts) _ _ _ g1 h3, want_sm hb (x := wColon) (by decide) _ _ _ g2 h5, list_sm hb (agg_sm hb) (agg_go ts) _ _ _ g3 h7]; exact h8
  · obtain ⟨y, i2, h3, h4⟩ := and_ok h2
    obtain ⟨_, i3, h5, h6⟩ := and_ok h4
    obtain ⟨_, i4, h7, h8⟩ := and_ok h6
    have g2 := (num_go ts _ _ _ h3).2
    have g3 := (want_go ts _ _ _ _ h5).2
    simp only [num_sm hb _ _ _ g1 h3, want_sm hb (x := wBy) (by decide) _ _ _ g2 h5, name_sm hb _ _ _ g3 h7]; exact h8
  · obtain ⟨y, i2, h3, h4⟩ := and_ok h2
    simp only [inBr_sm hb ho _ _ _ _ g1 h3]; exact h4
  · obtain ⟨y, i2, h3, h4⟩ := and_ok h2
    simp only [inBr_sm hb ho _ _ _ _ g1 h3]; exact h4
/- Its steps are gone through as they were, till the tokens end. -/
theorem stepsL_sm (hb : Bar us) {c c' : PN} {o o' : Option PN} (hc : SmN ts c c') (ho : ∀ p, o = some p → ∃ q, o' = some q ∧ SmQ ts p q) (hgc : GoN ts c) (hgo : ∀ p, o = some p → GoN ts p) : ∀ F F' a i ns r j, i ≤ ts.length → ts.length ≤ F + i → ts.length < F' + i → stepsL ts (stepB ts c o) F a i ns = .ok r j →
    (j < ts.length → stepsL (ts ++ us) (stepB (ts ++ us) c' o') F' a i ns = .ok r j) ∧ (j = ts.length → ∃ F'', F' + i ≤ F'' + ts.length ∧ stepsL (ts ++ us) (stepB (ts ++ us) c' o') F' a i ns = stepsL (ts ++ us) (stepB (ts ++ us) c' o') F'' r.1 ts.length r.2)
  | 0, F', a, i, ns, r, j, hi, h1, h2, h => by
    simp [stepsL] at h
    obtain ⟨rfl, rfl⟩ := h
    exact ⟨fun hj => by omega, fun hj => ⟨F', by omega, by rw [hj]⟩⟩
  | F + 1, F', a, i, ns, r, j, hi, h1, h2, h => by
    obtain ⟨F'', rfl⟩ : ∃ n, F' = n + 1 := ⟨F' - 1, by omega⟩
    rw [stepsL] at h
    split at h
    · rename_i hw
      have hlt := isW_lt hw
      obtain ⟨y, i1, h3, h4⟩ := and_ok h
      have g1 := stepB_go hgc hgo _ _ _ _ _ h3
      have e : stepsL (ts ++ us) (stepB (ts ++ us) c' o') (F'' + 1) a i ns = stepsL (ts ++ us) (stepB (ts ++ us) c' o') F'' y.2.length i1 (y.2 ++ [y.1]) := by
        rw [stepsL, isW_app_lt hlt, if_pos hw, step_sm hb hc ho _ _ _ _ _ (by omega) h3]; rfl
      have ih := stepsL_sm hb hc ho hgc hgo F F'' _ _ _ _ _ g1.2.1 (by omega) (by omega) h4
      refine ⟨fun hj => by rw [e]; exact ih.1 hj, fun hj => ?_⟩
      obtain ⟨G, hG, e2⟩ := ih.2 hj
      exact ⟨G, by omega, by rw [e, e2]⟩
    · rename_i hw
      cases h
      refine ⟨fun hj => ?_, fun hj => ⟨F'' + 1, by omega, by rw [hj]⟩⟩
      rw [stepsL, isW_app_lt hj, if_neg hw]
theorem queryB_sm (hb : Bar us) {c c' : PN} {o o' : Option PN} (hc : SmN ts c c') (ho : ∀ p, o = some p → ∃ q, o' = some q ∧ SmQ ts p q) (hgc : GoN ts c) (hgo : ∀ p, o = some p → GoN ts p) {i : Nat} {ns : List Np} {r : Nat × List Np} {j : Nat} (hi : i ≤ ts.length) (h : queryB ts c o i ns = .ok r j) :
    (j < ts.length → queryB (ts ++ us) c' o' i ns = .ok r j) ∧ (j = ts.length → ∃ F, us.length ≤ F ∧ queryB (ts ++ us) c' o' i ns = stepsL (ts ++ us) (stepB (ts ++ us) c' o') F r.1 ts.length r.2) := by
  obtain ⟨y, i1, h1, h2⟩ := and_ok h
  have g1 := (fetch_go ts _ _ _ h1).2
  have hl : ts.length < (ts ++ us).length := by obtain ⟨b, r, e, -, -⟩ := hb; rw [e]; simp
  have hs := stepsL_sm hb hc ho hgc hgo _ (ts ++ us).length _ _ _ _ _ g1 (by omega) (by omega) h2
  have e : queryB (ts ++ us) c' o' i ns = stepsL (ts ++ us) (stepB (ts ++ us) c' o') (ts ++ us).length ns.length i1 (ns ++ [y]) := by
    unfold queryB; rw [fetch_sm hb _ _ _ hi h1]; rfl
  refine ⟨fun hj => by rw [e]; exact hs.1 hj, fun hj => ?_⟩
  obtain ⟨G, hG, e2⟩ := hs.2 hj
  exact ⟨G, by rw [List.length_append] at hG; omega, by rw [e, e2]⟩
theorem query_sm (hb : Bar us) : ∀ d, SmQ ts (queryS ts d) (queryS (ts ++ us) d)
  | 0 => fun i ns r j hi h hj => (queryB_sm hb (cond_sm hb 0) (fun p h => by cases h) (cond_go ts 0) (fun p h => by cases h) hi h).1 hj
  | d + 1 => fun i ns r j hi h hj => (queryB_sm hb (cond_sm hb (d + 1)) (fun p h => by cases h; exact ⟨_, rfl, query_sm hb d⟩) (cond_go ts (d + 1)) (fun p h => by cases h; exact query_go ts d) hi h).1 hj
/- Behind a whole query the steps go on. -/
theorem query_on (hb : Bar us) {A : List Np} {a : Nat} (h : parseS ts = (A, a, 0)) : ∃ F, us.length ≤ F ∧ queryS (ts ++ us) 16 0 [] = stepsL (ts ++ us) (stepB (ts ++ us) (condS (ts ++ us) 16) (some (queryS (ts ++ us) 15))) F (A.length - 1) ts.length A := by
  have h0 : (parseS ts).2.2 = 0 := by rw [h]
  unfold parseS wholeS at h h0
  split at h0
  · simp at h0
  · rename_i hl
    rw [if_neg hl] at h
    cases hq : queryS ts 16 0 [] with
    | bad i c =>
      rw [hq] at h0
      exact absurd h0 (query_bd ts 16 0 [] i c hq)
    | ok r j =>
      rw [hq] at h h0
      simp only at h h0
      split at h0
      · simp at h0
      · rename_i hj
        rw [if_neg hj] at h
        split at h0
        · simp at h0
        · rename_i h2
          rw [if_neg h2] at h
          cases h
          have g := query_go ts 16 _ _ _ _ hq
          obtain ⟨new, -, -, e3⟩ := query_t ts 16 _ _ _ _ hq
          have ej : j = ts.length := by omega
          obtain ⟨F, hF, e⟩ := (queryB_sm (ts := ts) (us := us) hb (cond_sm hb 16) (o := some (queryS ts 15)) (o' := some (queryS (ts ++ us) 15)) (fun p h => by cases h; exact ⟨_, rfl, query_sm hb 15⟩) (cond_go ts 16) (fun p h => by cases h; exact query_go ts 15) (Nat.zero_le _) hq).2 ej
          exact ⟨F, hF, by rw [show r.2.length - 1 = r.1 by omega]; exact e⟩
end
end Go.Proofs.YtmpjmimhoikknaaGreatDoor
