/-
  A query's nodes as plain functions of its tokens.
-/

namespace Go.Proofs.YtmpjmimhoikknaaGreatDoor

/- A token, a node: as data. -/
structure Tp where
  kind : Int
  s : List UInt8
  n : Int
  at_ : Int
structure Np where
  kind : Int
  s : List UInt8
  n : Int
  from_ : Int
  to_ : Int
  vk : Int
  vn : Int
  vs : List UInt8
  l : List Int
  names : List (List UInt8)
  aggs : List (Int × List UInt8)
def n0 : Np := ⟨0, [], 0, 0, 0, 0, 0, [], [], [], []⟩
/- What a step of reading comes to: an error at a token, or something, and the next token. -/
inductive Rs (α : Type) where
  | bad (i : Nat) (c : Int)
  | ok (x : α) (i : Nat)
def Rs.and {α β : Type} (r : Rs α) (f : α → Nat → Rs β) : Rs β := match r with
  | .bad i c => .bad i c
  | .ok x i => f x i
def isW (ts : List Tp) (i : Nat) (x : List UInt8) : Bool := match ts[i]? with
  | some t => decide ((t.kind = 1 ∨ t.kind = 4) ∧ t.s = x)
  | none => false
def isK (ts : List Tp) (i : Nat) (k : Int) : Bool := match ts[i]? with
  | some t => decide (t.kind = k)
  | none => false
def hereS (ts : List Tp) (i : Nat) : Tp := (ts[i]?).getD ⟨0, [], 0, 0⟩
def wFetch : List UInt8 := [102, 101, 116, 99, 104]
def wFrom : List UInt8 := [102, 114, 111, 109]
def wTo : List UInt8 := [116, 111]
def wBar : List UInt8 := [124]
def wComma : List UInt8 := [44]
def wOpen : List UInt8 := [40]
def wShut : List UInt8 := [41]
def wColon : List UInt8 := [58]
def wBy : List UInt8 := [98, 121]
def wOr : List UInt8 := [111, 114]
def wAnd : List UInt8 := [97, 110, 100]
def wNot : List UInt8 := [110, 111, 116]
def wHas : List UInt8 := [104, 97, 115]
def aggW : List (List UInt8) := [[99, 111, 117, 110, 116], [115, 117, 109], [109, 105, 110], [109, 97, 120], [109, 101, 97, 110], [109, 101, 114, 103, 101]]
def howW : List (List UInt8) := [[61], [33, 61], [60], [60, 61], [62], [62, 61]]
def boolW : List (List UInt8) := [[102, 97, 108, 115, 101], [116, 114, 117, 101]]
def stepW : List (List UInt8) := [[119, 104, 101, 114, 101], [107, 101, 101, 112], [97, 108, 105, 103, 110], [103, 114, 111, 117, 112], [116, 111, 112], [106, 111, 105, 110], [117, 110, 105, 111, 110]]
def takeS (ts : List Tp) (k : Int) (i : Nat) : Rs Tp := if isK ts i k then .ok (hereS ts i) (i + 1) else .bad i 120
def wantS (ts : List Tp) (x : List UInt8) (i : Nat) : Rs Unit := if isW ts i x then .ok () (i + 1) else .bad i 120
def nameS (ts : List Tp) (i : Nat) : Rs (List UInt8) := (takeS ts 1 i).and fun t j => .ok t.s j
def numS' (ts : List Tp) (i : Nat) : Rs Int := (takeS ts 2 i).and fun t j => .ok t.n j
def textV (ts : List Tp) (i : Nat) : Rs (Int × Int × List UInt8) := (takeS ts 3 i).and fun t j => .ok (2, 0, t.s) j
def idxOf (ts : List Tp) (i : Nat) : List (List UInt8) → Nat → Option Nat
  | [], _ => none
  | x :: r, k => if isW ts i x then some k else idxOf ts i r (k + 1)
def oneOfS (ts : List Tp) (ws : List (List UInt8)) (i : Nat) : Rs Nat := match idxOf ts i ws 0 with
  | some k => .ok k (i + 1)
  | none => .bad i 120
def moreS {α : Type} (ts : List Tp) (one : Nat → Rs α) : Nat → List α → Nat → Rs (List α)
  | 0, acc, i => .ok acc i
  | f + 1, acc, i => if isW ts i wComma then (one (i + 1)).and fun x j => moreS ts one f (acc ++ [x]) j else .ok acc i
def listS {α : Type} (ts : List Tp) (one : Nat → Rs α) (i : Nat) : Rs (List α) := (one i).and fun x j => moreS ts one ts.length [x] j
def aggS (ts : List Tp) (i : Nat) : Rs (Int × List UInt8) := (oneOfS ts aggW i).and fun k j =>
  if k = 0 then .ok (1, []) j else (nameS ts j).and fun x j => .ok (1 + (k : Int), x) j
def valueS (ts : List Tp) (i : Nat) : Rs (Int × Int × List UInt8) :=
  if isK ts i 2 then (numS' ts i).and fun n j => .ok (1, n, []) j
  else if isK ts i 3 then textV ts i
  else (oneOfS ts boolW i).and fun k j => .ok (3, (k : Int), []) j
def testS (ts : List Tp) (i : Nat) : Rs Np := (nameS ts i).and fun x j =>
  if isW ts j wHas then (textV ts (j + 1)).and fun v j => .ok { n0 with kind := 15, s := x, vk := v.1, vn := v.2.1, vs := v.2.2 } j
  else (oneOfS ts howW j).and fun k j => (valueS ts j).and fun v j => .ok { n0 with kind := 14, s := x, n := 1 + (k : Int), vk := v.1, vn := v.2.1, vs := v.2.2 } j
def fetchS (ts : List Tp) (i : Nat) : Rs Np := (wantS ts wFetch i).and fun _ j => (nameS ts j).and fun x j =>
  if isW ts j wFrom then (numS' ts (j + 1)).and fun a j => (wantS ts wTo j).and fun _ j => (numS' ts j).and fun b j => .ok { n0 with kind := 1, s := x, from_ := a, to_ := b } j
  else .ok { n0 with kind := 1, s := x, to_ := 1099511627775 } j
/- What lays nodes: its node's number, the nodes. -/
abbrev PN := Nat → List Np → Rs (Nat × List Np)
def chainL (ts : List Tp) (x : List UInt8) (kind : Int) (part : PN) : Nat → Nat → Nat → List Np → Rs (Nat × List Np)
  | 0, a, i, ns => .ok (a, ns) i
  | f + 1, a, i, ns => if isW ts i x then (part (i + 1) ns).and fun r j => chainL ts x kind part f r.2.length j (r.2 ++ [{ n0 with kind := kind, l := [(a : Int), (r.1 : Int)] }]) else .ok (a, ns) i
def chainS (ts : List Tp) (x : List UInt8) (kind : Int) (part : PN) : PN := fun i ns => (part i ns).and fun r j => chainL ts x kind part ts.length r.1 j r.2
def bothB (ts : List Tp) (p : PN) : PN := chainS ts wAnd 11 p
def condB (ts : List Tp) (p : PN) : PN := chainS ts wOr 12 (bothB ts p)
/- Between brackets; deep: what may stand within. -/
def inBr (ts : List Tp) (deep : Option PN) : PN := fun i ns =>
  if isW ts i wOpen then match deep with
    | none => .bad i 2
    | some p => (p (i + 1) ns).and fun r j => (wantS ts wShut j).and fun _ j => .ok r j
  else .bad i 120
def notB (ts : List Tp) (deep : Option PN) : PN := fun i ns =>
  if isW ts i wNot then match deep with
    | none => .bad i 2
    | some p => (p (i + 1) ns).and fun r j => .ok (r.2.length, r.2 ++ [{ n0 with kind := 13, l := [(r.1 : Int)] }]) j
  else if isW ts i wOpen then inBr ts (deep.map (condB ts)) i ns
  else (testS ts i).and fun n j => .ok (ns.length, ns ++ [n]) j
def notS (ts : List Tp) : Nat → PN
  | 0 => notB ts none
  | d + 1 => notB ts (some (notS ts d))
def condS (ts : List Tp) (d : Nat) : PN := condB ts (notS ts d)
def laidN (k : Int) (rows : Nat) : Np := { n0 with kind := k, l := [(rows : Int)] }
/- A step: its node, and the nodes ahead of it. -/
def stepB (ts : List Tp) (cond : PN) (deep : Option PN) (rows : Nat) (i : Nat) (ns : List Np) : Rs (Np × List Np) :=
  (oneOfS ts stepW i).and fun k j => match k with
    | 0 => (cond j ns).and fun r j => .ok ({ n0 with kind := 2, l := [(rows : Int), (r.1 : Int)] }, r.2) j
    | 1 => (listS ts (nameS ts) j).and fun l j => .ok ({ laidN 3 rows with names := l }, ns) j
    | 2 => (numS' ts j).and fun n j => .ok ({ laidN 4 rows with n := n }, ns) j
    | 3 => if isW ts j wColon then (listS ts (aggS ts) (j + 1)).and fun l j => .ok ({ laidN 5 rows with aggs := l }, ns) j
        else (listS ts (nameS ts) j).and fun l j => (wantS ts wColon j).and fun _ j => (listS ts (aggS ts) j).and fun g j => .ok ({ laidN 5 rows with names := l, aggs := g }, ns) j
    | 4 => (numS' ts j).and fun n j => (wantS ts wBy j).and fun _ j => (nameS ts j).and fun x j => .ok ({ laidN 6 rows with n := n, s := x }, ns) j
    | 5 => (inBr ts deep j ns).and fun r j => .ok ({ n0 with kind := 7, l := [(rows : Int), (r.1 : Int)] }, r.2) j
    | _ => (inBr ts deep j ns).and fun r j => .ok ({ n0 with kind := 8, l := [(rows : Int), (r.1 : Int)] }, r.2) j
def stepsL (ts : List Tp) (step : Nat → Nat → List Np → Rs (Np × List Np)) : Nat → Nat → Nat → List Np → Rs (Nat × List Np)
  | 0, a, i, ns => .ok (a, ns) i
  | f + 1, a, i, ns => if isW ts i wBar then (step a (i + 1) ns).and fun r j => stepsL ts step f r.2.length j (r.2 ++ [r.1]) else .ok (a, ns) i
def queryB (ts : List Tp) (cond : PN) (deep : Option PN) : PN := fun i ns => (fetchS ts i).and fun n j => stepsL ts (stepB ts cond deep) ts.length ns.length j (ns ++ [n])
def queryS (ts : List Tp) : Nat → PN
  | 0 => queryB ts (condS ts 0) none
  | d + 1 => queryB ts (condS ts (d + 1)) (some (queryS ts d))
/- All of it. -/
def wholeS (ts : List Tp) (p : PN) : List Np × Nat × Int :=
  if 1024 < ts.length then ([], 0, 2) else match p 0 [] with
    | .bad i c => ([], i, c)
    | .ok r j => if j < ts.length then ([], j, 120) else if 128 < r.2.length then ([], 0, 2) else (r.2, 0, 0)
def parseS (ts : List Tp) : List Np × Nat × Int := wholeS ts (queryS ts 16)
def condW (ts : List Tp) : List Np × Nat × Int := wholeS ts (condS ts 16)

theorem isW_lt {ts : List Tp} {i : Nat} {x : List UInt8} (h : isW ts i x = true) : i < ts.length := by
  unfold isW at h
  cases e : ts[i]? with
  | none => rw [e] at h; cases h
  | some t => exact (List.getElem?_eq_some_iff.1 e).1
theorem isK_lt {ts : List Tp} {i : Nat} {k : Int} (h : isK ts i k = true) : i < ts.length := by
  unfold isK at h
  cases e : ts[i]? with
  | none => rw [e] at h; cases h
  | some t => exact (List.getElem?_eq_some_iff.1 e).1
theorem and_ok {α β : Type} {r : Rs α} {f : α → Nat → Rs β} {y : β} {j : Nat} (h : r.and f = .ok y j) : ∃ x i, r = .ok x i ∧ f x i = .ok y j := by
  cases r with
  | bad i c => simp [Rs.and] at h
  | ok x i => exact ⟨x, i, rfl, h⟩
/- What reads goes on by at least k tokens, and not beyond the end. -/
def Go1 (ts : List Tp) {α : Type} (k : Nat) (p : Nat → Rs α) : Prop := ∀ i x j, p i = .ok x j → i + k ≤ j ∧ j ≤ ts.length
theorem take_go (ts : List Tp) (k : Int) : Go1 ts 1 (takeS ts k) := by
  intro i x j h
  unfold takeS at h
  split at h
  · rename_i hk; cases h; have := isK_lt hk; omega
  · cases h
theorem want_go (ts : List Tp) (x : List UInt8) : Go1 ts 1 (wantS ts x) := by
  intro i y j h
  unfold wantS at h
  split at h
  · rename_i hk; cases h; have := isW_lt hk; omega
  · cases h
theorem name_go (ts : List Tp) : Go1 ts 1 (nameS ts) := by
  intro i x j h
  obtain ⟨t, i1, h1, h2⟩ := and_ok h
  cases h2; exact take_go ts 1 i t _ h1
theorem num_go (ts : List Tp) : Go1 ts 1 (numS' ts) := by
  intro i x j h
  obtain ⟨t, i1, h1, h2⟩ := and_ok h
  cases h2; exact take_go ts 2 i t _ h1
theorem text_go (ts : List Tp) : Go1 ts 1 (textV ts) := by
  intro i x j h
  obtain ⟨t, i1, h1, h2⟩ := and_ok h
  cases h2; exact take_go ts 3 i t _ h1
theorem idxOf_is {ts : List Tp} {i : Nat} : ∀ {ws : List (List UInt8)} {k m : Nat}, idxOf ts i ws k = some m → (∃ x, ws[m - k]? = some x ∧ isW ts i x = true) ∧ k ≤ m
  | [], k, m, h => by simp [idxOf] at h
  | x :: r, k, m, h => by
    unfold idxOf at h
    split at h
    · rename_i hx; cases h; exact ⟨⟨x, by simp, hx⟩, Nat.le_refl _⟩
    · obtain ⟨⟨y, hy, hw⟩, hle⟩ := idxOf_is h
      refine ⟨⟨y, ?_, hw⟩, by omega⟩
      have e : m - k = (m - (k + 1)) + 1 := by omega
      rw [e]; simpa using hy
theorem oneOf_go (ts : List Tp) (ws : List (List UInt8)) : Go1 ts 1 (oneOfS ts ws) := by
  intro i x j h
  unfold oneOfS at h
  split at h
  · rename_i k hk; cases h
    obtain ⟨⟨y, _, hw⟩, _⟩ := idxOf_is hk
    have := isW_lt hw; omega
  · cases h
theorem oneOf_lt {ts : List Tp} {ws : List (List UInt8)} {i k j : Nat} (h : oneOfS ts ws i = .ok k j) : k < ws.length := by
  unfold oneOfS at h
  split at h
  · rename_i k hk; cases h
    obtain ⟨⟨y, hy, _⟩, _⟩ := idxOf_is hk
    have := (List.getElem?_eq_some_iff.1 hy).1; omega
  · cases h
theorem more_go {α : Type} {ts : List Tp} {one : Nat → Rs α} (ho : Go1 ts 1 one) : ∀ f acc i x j, i ≤ ts.length → moreS ts one f acc i = .ok x j → i ≤ j ∧ j ≤ ts.length
  | 0, acc, i, x, j, hi, h => by simp [moreS] at h; omega
  | f + 1, acc, i, x, j, hi, h => by
    unfold moreS at h
    split at h
    · obtain ⟨y, i1, h1, h2⟩ := and_ok h
      have g1 := ho _ _ _ h1
      have := more_go ho f _ _ _ _ g1.2 h2; omega
    · cases h; omega
theorem list_go {α : Type} {ts : List Tp} {one : Nat → Rs α} (ho : Go1 ts 1 one) : Go1 ts 1 (listS ts one) := by
  intro i x j h
  obtain ⟨y, i1, h1, h2⟩ := and_ok h
  have g1 := ho _ _ _ h1
  have := more_go ho _ _ _ _ _ g1.2 h2; omega
theorem agg_go (ts : List Tp) : Go1 ts 1 (aggS ts) := by
  intro i x j h
  obtain ⟨k, i1, h1, h2⟩ := and_ok h
  have g1 := oneOf_go ts _ _ _ _ h1
  split at h2
  · cases h2; exact g1
  · obtain ⟨y, i2, h3, h4⟩ := and_ok h2
    have g2 := name_go ts _ _ _ h3
    cases h4; omega
theorem value_go (ts : List Tp) : Go1 ts 1 (valueS ts) := by
  intro i x j h
  unfold valueS at h
  split at h
  · obtain ⟨k, i1, h1, h2⟩ := and_ok h
    have g1 := num_go ts _ _ _ h1
    cases h2; exact g1
  · split at h
    · exact text_go ts _ _ _ h
    · obtain ⟨k, i1, h1, h2⟩ := and_ok h
      have g1 := oneOf_go ts _ _ _ _ h1
      cases h2; exact g1
theorem test_go (ts : List Tp) : Go1 ts 1 (testS ts) := by
  intro i x j h
  obtain ⟨k, i1, h1, h2⟩ := and_ok h
  have g1 := name_go ts _ _ _ h1
  split at h2
  · obtain ⟨y, i2, h3, h4⟩ := and_ok h2
    have g2 := text_go ts _ _ _ h3
    cases h4; omega
  · obtain ⟨y, i2, h3, h4⟩ := and_ok h2
    obtain ⟨z, i3, h5, h6⟩ := and_ok h4
    have g2 := oneOf_go ts _ _ _ _ h3
    have g3 := value_go ts _ _ _ h5
    cases h6; omega
theorem fetch_go (ts : List Tp) : Go1 ts 1 (fetchS ts) := by
  intro i x j h
  obtain ⟨_, i1, h1, h2⟩ := and_ok h
  obtain ⟨_, i2, h3, h4⟩ := and_ok h2
  have g1 := want_go ts _ _ _ _ h1
  have g2 := name_go ts _ _ _ h3
  split at h4
  · obtain ⟨_, i3, h5, h6⟩ := and_ok h4
    obtain ⟨_, i4, h7, h8⟩ := and_ok h6
    obtain ⟨_, i5, h9, h10⟩ := and_ok h8
    have g3 := num_go ts _ _ _ h5
    have g4 := want_go ts _ _ _ _ h7
    have g5 := num_go ts _ _ _ h9
    cases h10; omega
  · cases h4; omega
/- So do those that lay nodes, one node a token at most; the node that they name is there. -/
def GoN (ts : List Tp) (p : PN) : Prop := ∀ i ns r j, p i ns = .ok r j → i + 1 ≤ j ∧ j ≤ ts.length ∧ r.2.length + i ≤ ns.length + j ∧ r.1 < r.2.length ∧ ns.length ≤ r.2.length
theorem chainL_go {ts : List Tp} {x : List UInt8} {kind : Int} {p : PN} (hp : GoN ts p) : ∀ f a i ns r j, i ≤ ts.length → a < ns.length → chainL ts x kind p f a i ns = .ok r j → i ≤ j ∧ j ≤ ts.length ∧ r.2.length + i ≤ ns.length + j ∧ r.1 < r.2.length ∧ ns.length ≤ r.2.length
  | 0, a, i, ns, r, j, hi, ha, h => by simp [chainL] at h; obtain ⟨rfl, rfl⟩ := h; exact ⟨by omega, hi, by simp, ha, Nat.le_refl _⟩
  | f + 1, a, i, ns, r, j, hi, ha, h => by
    unfold chainL at h
    split at h
    · obtain ⟨y, i1, h1, h2⟩ := and_ok h
      have g1 := hp _ _ _ _ h1
      have := chainL_go hp f _ _ _ _ _ g1.2.1 (by simp) h2
      simp only [List.length_append, List.length_cons, List.length_nil] at this
      omega
    · cases h; exact ⟨by omega, hi, by simp, ha, Nat.le_refl _⟩
theorem chain_go {ts : List Tp} {x : List UInt8} {kind : Int} {p : PN} (hp : GoN ts p) : GoN ts (chainS ts x kind p) := by
  intro i ns r j h
  obtain ⟨y, i1, h1, h2⟩ := and_ok h
  have g1 := hp _ _ _ _ h1
  have := chainL_go hp _ _ _ _ _ _ g1.2.1 g1.2.2.2.1 h2
  omega
theorem both_go {ts : List Tp} {p : PN} (hp : GoN ts p) : GoN ts (bothB ts p) := chain_go hp
theorem condB_go {ts : List Tp} {p : PN} (hp : GoN ts p) : GoN ts (condB ts p) := chain_go (both_go hp)
theorem inBr_go {ts : List Tp} {o : Option PN} (hp : ∀ p, o = some p → GoN ts p) : GoN ts (inBr ts o) := by
  intro i ns r j h
  unfold inBr at h
  split at h
  · cases o with
    | none => cases h
    | some p =>
      obtain ⟨y, i1, h1, h2⟩ := and_ok h
      obtain ⟨_, i2, h3, h4⟩ := and_ok h2
      have g1 := hp p rfl _ _ _ _ h1
      have g2 := want_go ts _ _ _ _ h3
      cases h4; omega
  · cases h
theorem notB_go {ts : List Tp} {o : Option PN} (hp : ∀ p, o = some p → GoN ts p) : GoN ts (notB ts o) := by
  intro i ns r j h
  unfold notB at h
  split at h
  · cases o with
    | none => cases h
    | some p =>
      obtain ⟨y, i1, h1, h2⟩ := and_ok h
      have g1 := hp p rfl _ _ _ _ h1
      cases h2
      simp; omega
  · split at h
    · refine inBr_go ?_ _ _ _ _ h
      intro q hq
      cases o with
      | none => cases hq
      | some p => cases hq; exact condB_go (hp p rfl)
    · obtain ⟨y, i1, h1, h2⟩ := and_ok h
      have g1 := test_go ts _ _ _ h1
      cases h2
      simp; omega
theorem not_go (ts : List Tp) : ∀ d, GoN ts (notS ts d)
  | 0 => notB_go (fun p h => by cases h)
  | d + 1 => notB_go (fun p h => by cases h; exact not_go ts d)
theorem cond_go (ts : List Tp) (d : Nat) : GoN ts (condS ts d) := condB_go (not_go ts d)
theorem stepB_go {ts : List Tp} {c : PN} {o : Option PN} (hc : GoN ts c) (hp : ∀ p, o = some p → GoN ts p) (rows i : Nat) (ns : List Np) (r : Np × List Np) (j : Nat) (h : stepB ts c o rows i ns = .ok r j) : i + 1 ≤ j ∧ j ≤ ts.length ∧ r.2.length + i ≤ ns.length + j ∧ ns.length ≤ r.2.length := by
  obtain ⟨k, i1, h1, h2⟩ := and_ok h
  have g1 := oneOf_go ts _ _ _ _ h1
  split at h2
  · obtain ⟨y, i2, h3, h4⟩ := and_ok h2
    have g2 := hc _ _ _ _ h3
    cases h4; simp; omega
  · obtain ⟨y, i2, h3, h4⟩ := and_ok h2
    have g2 := list_go (name_go ts) _ _ _ h3
    cases h4; simp; omega
  · obtain ⟨y, i2, h3, h4⟩ := and_ok h2
    have g2 := num_go ts _ _ _ h3
    cases h4; simp; omega
  · split at h2
    · obtain ⟨y, i2, h3, h4⟩ := and_ok h2
      have g2 := list_go (agg_go ts) _ _ _ h3
      cases h4; simp; omega
    · obtain ⟨y, i2, h3, h4⟩ := and_ok h2
      obtain ⟨_, i3, h5, h6⟩ := and_ok h4
      obtain ⟨_, i4, h7, h8⟩ := and_ok h6
      have g2 := list_go (name_go ts) _ _ _ h3
      have g3 := want_go ts _ _ _ _ h5
      have g4 := list_go (agg_go ts) _ _ _ h7
      cases h8; simp; omega
  · obtain ⟨y, i2, h3, h4⟩ := and_ok h2
    obtain ⟨_, i3, h5, h6⟩ := and_ok h4
    obtain ⟨_, i4, h7, h8⟩ := and_ok h6
    have g2 := num_go ts _ _ _ h3
    have g3 := want_go ts _ _ _ _ h5
    have g4 := name_go ts _ _ _ h7
    cases h8; simp; omega
  · obtain ⟨y, i2, h3, h4⟩ := and_ok h2
    have g2 := inBr_go hp _ _ _ _ h3
    cases h4; simp; omega
  · obtain ⟨y, i2, h3, h4⟩ := and_ok h2
    have g2 := inBr_go hp _ _ _ _ h3
    cases h4; simp; omega
theorem stepsL_go {ts : List Tp} {c : PN} {o : Option PN} (hc : GoN ts c) (hp : ∀ p, o = some p → GoN ts p) : ∀ f a i ns r j, i ≤ ts.length → a < ns.length → stepsL ts (stepB ts c o) f a i ns = .ok r j → i ≤ j ∧ j ≤ ts.length ∧ r.2.length + i ≤ ns.length + j ∧ r.1 < r.2.length ∧ ns.length ≤ r.2.length
  | 0, a, i, ns, r, j, hi, ha, h => by simp [stepsL] at h; obtain ⟨rfl, rfl⟩ := h; exact ⟨by omega, hi, by simp, ha, Nat.le_refl _⟩
  | f + 1, a, i, ns, r, j, hi, ha, h => by
    unfold stepsL at h
    split at h
    · obtain ⟨y, i1, h1, h2⟩ := and_ok h
      have g1 := stepB_go hc hp _ _ _ _ _ h1
      have := stepsL_go hc hp f _ _ _ _ _ g1.2.1 (by simp) h2
      simp only [List.length_append, List.length_cons, List.length_nil] at this
      omega
    · cases h; exact ⟨by omega, hi, by simp, ha, Nat.le_refl _⟩
theorem queryB_go {ts : List Tp} {c : PN} {o : Option PN} (hc : GoN ts c) (hp : ∀ p, o = some p → GoN ts p) : GoN ts (queryB ts c o) := by
  intro i ns r j h
  obtain ⟨y, i1, h1, h2⟩ := and_ok h
  have g1 := fetch_go ts _ _ _ h1
  have := stepsL_go hc hp _ _ _ _ _ _ g1.2 (by simp) h2
  simp only [List.length_append, List.length_cons, List.length_nil] at this
  omega
theorem query_go (ts : List Tp) : ∀ d, GoN ts (queryS ts d)
  | 0 => queryB_go (cond_go ts 0) (fun p h => by cases h)
  | d + 1 => queryB_go (cond_go ts (d + 1)) (fun p h => by cases h; exact query_go ts d)
end Go.Proofs.YtmpjmimhoikknaaGreatDoor
