/-
  A query's nodes as plain functions of its tokens.
  Brackets about a condition change nothing of what is read.
-/

namespace Go.Proofs.Ytjekpclbedbaoaa

/- A token, a node: as data. -/
structure Tp where
  kind : Int
  s : List UInt8
  n : Int
  at_ : Int
structure Np where
  kind : Int
  s : List UInt8
  n : Int
  from_ : Int
  to_ : Int
  vk : Int
  vn : Int
  vs : List UInt8
  l : List Int
  names : List (List UInt8)
  aggs : List (Int × List UInt8)
def n0 : Np := ⟨0, [], 0, 0, 0, 0, 0, [], [], [], []⟩
/- What a step of reading comes to: an error at a token, or something, and the next token. -/
inductive Rs (α : Type) where
  | bad (i : Nat) (c : Int)
  | ok (x : α) (i : Nat)
def Rs.and {α β : Type} (r : Rs α) (f : α → Nat → Rs β) : Rs β := match r with
  | .bad i c => .bad i c
  | .ok x i => f x i
def isW (ts : List Tp) (i : Nat) (x : List UInt8) : Bool := match ts[i]? with
  | some t => decide ((t.kind = 1 ∨ t.kind = 4) ∧ t.s = x)
  | none => false
def isK (ts : List Tp) (i : Nat) (k : Int) : Bool := match ts[i]? with
  | some t => decide (t.kind = k)
  | none => false
def hereS (ts : List Tp) (i : Nat) : Tp := (ts[i]?).getD ⟨0, [], 0, 0⟩
def wFetch : List UInt8 := [102, 101, 116, 99, 104]
def wFrom : List UInt8 := [102, 114, 111, 109]
def wTo : List UInt8 := [116, 111]
def wBar : List UInt8 := [124]
def wComma : List UInt8 := [44]
def wOpen : List UInt8 := [40]
def wShut : List UInt8 := [41]
def wColon : List UInt8 := [58]
def wBy : List UInt8 := [98, 121]
def wOr : List UInt8 := [111, 114]
def wAnd : List UInt8 := [97, 110, 100]
def wNot : List UInt8 := [110, 111, 116]
def wHas : List UInt8 := [104, 97, 115]
def aggW : List (List UInt8) := [[99, 111, 117, 110, 116], [115, 117, 109], [109, 105, 110], [109, 97, 120], [109, 101, 97, 110], [109, 101, 114, 103, 101]]
def howW : List (List UInt8) := [[61], [33, 61], [60], [60, 61], [62], [62, 61]]
def boolW : List (List UInt8) := [[102, 97, 108, 115, 101], [116, 114, 117, 101]]
def stepW : List (List UInt8) := [[119, 104, 101, 114, 101], [107, 101, 101, 112], [97, 108, 105, 103, 110], [103, 114, 111, 117, 112], [116, 111, 112], [106, 111, 105, 110], [117, 110, 105, 111, 110]]
def takeS (ts : List Tp) (k : Int) (i : Nat) : Rs Tp := if isK ts i k then .ok (hereS ts i) (i + 1) else .bad i 120
def wantS (ts : List Tp) (x : List UInt8) (i : Nat) : Rs Unit := if isW ts i x then .ok () (i + 1) else .bad i 120
def nameS (ts : List Tp) (i : Nat) : Rs (List UInt8) := (takeS ts 1 i).and fun t j => .ok t.s j
def numS' (ts : List Tp) (i : Nat) : Rs Int := (takeS ts 2 i).and fun t j => .ok t.n j
def textV (ts : List Tp) (i : Nat) : Rs (Int × Int × List UInt8) := (takeS ts 3 i).and fun t j => .ok (2, 0, t.s) j
def idxOf (ts : List Tp) (i : Nat) : List (List UInt8) → Nat → Option Nat
  | [], _ => none
  | x :: r, k => if isW ts i x then some k else idxOf ts i r (k + 1)
def oneOfS (ts : List Tp) (ws : List (List UInt8)) (i : Nat) : Rs Nat := match idxOf ts i ws 0 with
  | some k => .ok k (i + 1)
  | none => .bad i 120
def moreS {α : Type} (ts : List Tp) (one : Nat → Rs α) : Nat → List α → Nat → Rs (List α)
  | 0, acc, i => .ok acc i
  | f + 1, acc, i => if isW ts i wComma then (one (i + 1)).and fun x j => moreS ts one f (acc ++ [x]) j else .ok acc i
def listS {α : Type} (ts : List Tp) (one : Nat → Rs α) (i : Nat) : Rs (List α) := (one i).and fun x j => moreS ts one ts.length [x] j
def aggS (ts : List Tp) (i : Nat) : Rs (Int × List UInt8) := (oneOfS ts aggW i).and fun k j =>
  if k = 0 then .ok (1, []) j else (nameS ts j).and fun x j => .ok (1 + (k : Int), x) j
def valueS (ts : List Tp) (i : Nat) : Rs (Int × Int × List UInt8) :=
  if isK ts i 2 then (numS' ts i).and fun n j => .ok (1, n, []) j
  else if isK ts i 3 then textV ts i
  else (oneOfS ts boolW i).and fun k j => .ok (3, (k : Int), []) j
def testS (ts : List Tp) (i : Nat) : Rs Np := (nameS ts i).and fun x j =>
  if isW ts j wHas then (textV ts (j + 1)).and fun v j => .ok { n0 with kind := 15, s := x, vk := v.1, vn := v.2.1, vs := v.2.2 } j
  else (oneOfS ts howW j).and fun k j => (valueS ts j).and fun v j => .ok { n0 with kind := 14, s := x, n := 1 + (k : Int), vk := v.1, vn := v.2.1, vs := v.2.2 } j
def fetchS (ts : List Tp) (i : Nat) : Rs Np := (wantS ts wFetch i).and fun _ j => (nameS ts j).and fun x j =>
  if isW ts j wFrom then (numS' ts (j + 1)).and fun a j => (wantS ts wTo j).and fun _ j => (numS' ts j).and fun b j => .ok { n0 with kind := 1, s := x, from_ := a, to_ := b } j
  else .ok { n0 with kind := 1, s := x, to_ := 1099511627775 } j
/- What lays nodes: its node's number, the nodes. -/
abbrev PN := Nat → List Np → Rs (Nat × List Np)
def chainL (ts : List Tp) (x : List UInt8) (kind : Int) (part : PN) : Nat → Nat → Nat → List Np → Rs (Nat × List Np)
  | 0, a, i, ns => .ok (a, ns) i
  | f + 1, a, i, ns => if isW ts i x then (part (i + 1) ns).and fun r j => chainL ts x kind part f r.2.length j (r.2 ++ [{ n0 with kind := kind, l := [(a : Int), (r.1 : Int)] }]) else .ok (a, ns) i
def chainS (ts : List Tp) (x : List UInt8) (kind : Int) (part : PN) : PN := fun i ns => (part i ns).and fun r j => chainL ts x kind part ts.length r.1 j r.2
def bothB (ts : List Tp) (p : PN) : PN := chainS ts wAnd 11 p
def condB (ts : List Tp) (p : PN) : PN := chainS ts wOr 12 (bothB ts p)
/- Between brackets; deep: what may stand within. -/
def inBr (ts : List Tp) (deep : Option PN) : PN := fun i ns =>
  if isW ts i wOpen then match deep with
    | none => .bad i 2
    | some p => (p (i + 1) ns).and fun r j => (wantS ts wShut j).and fun _ j => .ok r j
  else .bad i 120
def notB (ts : List Tp) (deep : Option PN) : PN := fun i ns =>
  if isW ts i wNot then match deep with
    | none => .bad i 2
    | some p => (p (i + 1) ns).and fun r j => .ok (r.2.length, r.2 ++ [{ n0 with kind := 13, l := [(r.1 : Int)] }]) j
  else if isW ts i wOpen then inBr ts (deep.map (condB ts)) i ns
  else (testS ts i).and fun n j => .ok (ns.length, ns ++ [n]) j
def notS (ts : List Tp) : Nat → PN
  | 0 => notB ts none
  | d + 1 => notB ts (some (notS ts d))
def condS (ts : List Tp) (d : Nat) : PN := condB ts (notS ts d)
def laidN (k : Int) (rows : Nat) : Np := { n0 with kind := k, l := [(rows : Int)] }
/- A step: its node, and the nodes ahead of it. -/
def stepB (ts : List Tp) (cond : PN) (deep : Option PN) (rows : Nat) (i : Nat) (ns : List Np) : Rs (Np × List Np) :=
  (oneOfS ts stepW i).and fun k j => match k with
    | 0 => (cond j ns).and fun r j => .ok ({ n0 with kind := 2, l := [(rows : Int), (r.1 : Int)] }, r.2) j
    | 1 => (listS ts (nameS ts) j).and fun l j => .ok ({ laidN 3 rows with names := l }, ns) j
    | 2 => (numS' ts j).and fun n j => .ok ({ laidN 4 rows with n := n }, ns) j
    | 3 => if isW ts j wColon then (listS ts (aggS ts) (j + 1)).and fun l j => .ok ({ laidN 5 rows with aggs := l }, ns) j
        else (listS ts (nameS ts) j).and fun l j => (wantS ts wColon j).and fun _ j => (listS ts (aggS ts) j).and fun g j => .ok ({ laidN 5 rows with names := l, aggs := g }, ns) j
    | 4 => (numS' ts j).and fun n j => (wantS ts wBy j).and fun _ j => (nameS ts j).and fun x j => .ok ({ laidN 6 rows with n := n, s := x }, ns) j
    | 5 => (inBr ts deep j ns).and fun r j => .ok ({ n0 with kind := 7, l := [(rows : Int), (r.1 : Int)] }, r.2) j
    | _ => (inBr ts deep j ns).and fun r j => .ok ({ n0 with kind := 8, l := [(rows : Int), (r.1 : Int)] }, r.2) j
def stepsL (ts : List Tp) (step : Nat → Nat → List Np → Rs (Np × List Np)) : Nat → Nat → Nat → List Np → Rs (Nat × List Np)
  | 0, a, i, ns => .ok (a, ns) i
  | f + 1, a, i, ns => if isW ts i wBar then (step a (i + 1) ns).and fun r j => stepsL ts step f r.2.length j (r.2 ++ [r.1]) else .ok (a, ns) i
def queryB (ts : List Tp) (cond : PN) (deep : Option PN) : PN := fun i ns => (fetchS ts i).and fun n j => stepsL ts (stepB ts cond deep) ts.length ns.length j (ns ++ [n])
def queryS (ts : List Tp) : Nat → PN
  | 0 => queryB ts (condS ts 0) none
  | d + 1 => queryB ts (condS ts (d + 1)) (some (queryS ts d))
/- All of it. -/
def wholeS (ts : List Tp) (p : PN) : List Np × Nat × Int :=
  if 1024 < ts.length then ([], 0, 2) else match p 0 [] with
    | .bad i c => ([], i, c)
    | .ok r j => if j < ts.length then ([], j, 120) else if 128 < r.2.length then ([], 0, 2) else (r.2, 0, 0)
def parseS (ts : List Tp) : List Np × Nat × Int := wholeS ts (queryS ts 16)
def condW (ts : List Tp) : List Np × Nat × Int := wholeS ts (condS ts 16)

theorem isW_lt {ts : List Tp} {i : Nat} {x : List UInt8} (h : isW ts i x = true) : i < ts.length := by
  unfold isW at h
  cases e : ts[i]? with
  | none => rw [e] at h; cases h
  | some t => exact (List.getElem?_eq_some_iff.1 e).1
theorem isK_lt {ts : List Tp} {i : Nat} {k : Int} (h : isK ts i k = true) : i < ts.length := by
  unfold isK at h
  cases e : ts[i]? with
  | none => rw [e] at h; cases h
  | some t => exact (List.getElem?_eq_some_iff.1 e).1
theorem and_ok {α β : Type} {r : Rs α} {f : α → Nat → Rs β} {y : β} {j : Nat} (h : r.and f = .ok y j) : ∃ x i, r = .ok x i ∧ f x i = .ok y j := by
  cases r with
  | bad i c => simp [Rs.and] at h
  | ok x i => exact ⟨x, i, rfl, h⟩
/- What reads goes on by at least k tokens, and not beyond the end. -/
def Go1 (ts : List Tp) {α : Type} (k : Nat) (p : Nat → Rs α) : Prop := ∀ i x j, p i = .ok x j → i + k ≤ j ∧ j ≤ ts.length
theorem take_go (ts : List Tp) (k : Int) : Go1 ts 1 (takeS ts k) := by
  intro i x j h
  unfold takeS at h
  split at h
  · rename_i hk; cases h; have := isK_lt hk; omega
  · cases h
theorem want_go (ts : List Tp) (x : List UInt8) : Go1 ts 1 (wantS ts x) := by
  intro i y j h
  unfold wantS at h
  split at h
  · rename_i hk; cases h; have := isW_lt hk; omega
  · cases h
theorem name_go (ts : List Tp) : Go1 ts 1 (nameS ts) := by
  intro i x j h
  obtain ⟨t, i1, h1, h2⟩ := and_ok h
  cases h2; exact take_go ts 1 i t _ h1
theorem num_go (ts : List Tp) : Go1 ts 1 (numS' ts) := by
  intro i x j h
  obtain ⟨t, i1, h1, h2⟩ := and_ok h
  cases h2; exact take_go ts 2 i t _ h1
theorem text_go (ts : List Tp) : Go1 ts 1 (textV ts) := by
  intro i x j h
  obtain ⟨t, i1, h1, h2⟩ := and_ok h
  cases h2; exact take_go ts 3 i t _ h1
theorem idxOf_is {ts : List Tp} {i : Nat} : ∀ {ws : List (List UInt8)} {k m : Nat}, idxOf ts i ws k = some m → (∃ x, ws[m - k]? = some x ∧ isW ts i x = true) ∧ k ≤ m
  | [], k, m, h => by simp [idxOf] at h
  | x :: r, k, m, h => by
    unfold idxOf at h
    split at h
    · rename_i hx; cases h; exact ⟨⟨x, by simp, hx⟩, Nat.le_refl _⟩
    · obtain ⟨⟨y, hy, hw⟩, hle⟩ := idxOf_is h
      refine ⟨⟨y, ?_, hw⟩, by omega⟩
      have e : m - k = (m - (k + 1)) + 1 := by omega
      rw [e]; simpa using hy
theorem oneOf_go (ts : List Tp) (ws : List (List UInt8)) : Go1 ts 1 (oneOfS ts ws) := by
  intro i x j h
  unfold oneOfS at h
  split at h
  · rename_i k hk; cases h
    obtain ⟨⟨y, _, hw⟩, _⟩ := idxOf_is hk
    have := isW_lt hw; omega
  · cases h
theorem oneOf_lt {ts : List Tp} {ws : List (List UInt8)} {i k j : Nat} (h : oneOfS ts ws i = .ok k j) : k < ws.length := by
  unfold oneOfS at h
  split at h
  · rename_i k hk; cases h
    obtain ⟨⟨y, hy, _⟩, _⟩ := idxOf_is hk
    have := (List.getElem?_eq_some_iff.1 hy).1; omega
  · cases h
theorem more_go {α : Type} {ts : List Tp} {one : Nat → Rs α} (ho : Go1 ts 1 one) : ∀ f acc i x j, i ≤ ts.length → moreS ts one f acc i = .ok x j → i ≤ j ∧ j ≤ ts.length
  | 0, acc, i, x, j, hi, h => by simp [moreS] at h; omega
  | f + 1, acc, i, x, j, hi, h => by
    unfold moreS at h
    split at h
    · obtain ⟨y, i1, h1, h2⟩ := and_ok h
      have g1 := ho _ _ _ h1
      have := more_go ho f _ _ _ _ g1.2 h2; omega
    · cases h; omega
theorem list_go {α : Type} {ts : List Tp} {one : Nat → Rs α} (ho : Go1 ts 1 one) : Go1 ts 1 (listS ts one) := by
  intro i x j h
  obtain ⟨y, i1, h1, h2⟩ := and_ok h
  have g1 := ho _ _ _ h1
  have := more_go ho _ _ _ _ _ g1.2 h2; omega
theorem agg_go (ts : List Tp) : Go1 ts 1 (aggS ts) := by
  intro i x j h
  obtain ⟨k, i1, h1, h2⟩ := and_ok h
  have g1 := oneOf_go ts _ _ _ _ h1
  split at h2
  · cases h2; exact g1
  · obtain ⟨y, i2, h3, h4⟩ := and_ok h2
    have g2 := name_go ts _ _ _ h3
    cases h4; omega
theorem value_go (ts : List Tp) : Go1 ts 1 (valueS ts) := by
  intro i x j h
  unfold valueS at h
  split at h
  · obtain ⟨k, i1, h1, h2⟩ := and_ok h
    have g1 := num_go ts _ _ _ h1
    cases h2; exact g1
  · split at h
    · exact text_go ts _ _ _ h
    · obtain ⟨k, i1, h1, h2⟩ := and_ok h
      have g1 := oneOf_go ts _ _ _ _ h1
      cases h2; exact g1
theorem test_go (ts : List Tp) : Go1 ts 1 (testS ts) := by
  intro i x j h
  obtain ⟨k, i1, h1, h2⟩ := and_ok h
  have g1 := name_go ts _ _ _ h1
  split at h2
  · obtain ⟨y, i2, h3, h4⟩ := and_ok h2
    have g2 := text_go ts _ _ _ h3
    cases h4; omega
  · obtain ⟨y, i2, h3, h4⟩ := and_ok h2
    obtain ⟨z, i3, h5, h6⟩ := and_ok h4
    have g2 := oneOf_go ts _ _ _ _ h3
    have g3 := value_go ts _ _ _ h5
    cases h6; omega
theorem fetch_go (ts : List Tp) : Go1 ts 1 (fetchS ts) := by
  intro i x j h
  obtain ⟨_, i1, h1, h2⟩ := and_ok h
  obtain ⟨_, i2, h3, h4⟩ := and_ok h2
  have g1 := want_go ts _ _ _ _ h1
  have g2 := name_go ts _ _ _ h3
  split at h4
  · obtain ⟨_, i3, h5, h6⟩ := and_ok h4
    obtain ⟨_, i4, h7, h8⟩ := and_ok h6
    obtain ⟨_, i5, h9, h10⟩ := and_ok h8
    have g3 := num_go ts _ _ _ h5
    have g4 := want_go ts _ _ _ _ h7
    have g5 := num_go ts _ _ _ h9
    cases h10; omega
  · cases h4; omega
/- So do those that lay nodes, one node a token at most; the node that they name is there. -/
def GoN (ts : List Tp) (p : PN) : Prop := ∀ i ns r j, p i ns = .ok r j → i + 1 ≤ j ∧ j ≤ ts.length ∧ r.2.length + i ≤ ns.length + j ∧ r.1 < r.2.length ∧ ns.length ≤ r.2.length
theorem chainL_go {ts : List Tp} {x : List UInt8} {kind : Int} {p : PN} (hp : GoN ts p) : ∀ f a i ns r j, i ≤ ts.length → a < ns.length → chainL ts x kind p f a i ns = .ok r j → i ≤ j ∧ j ≤ ts.length ∧ r.2.length + i ≤ ns.length + j ∧ r.1 < r.2.length ∧ ns.length ≤ r.2.length
  | 0, a, i, ns, r, j, hi, ha, h => by simp [chainL] at h; obtain ⟨rfl, rfl⟩ := h; exact ⟨by omega, hi, by simp, ha, Nat.le_refl _⟩
  | f + 1, a, i, ns, r, j, hi, ha, h => by
    unfold chainL at h
    split at h
    · obtain ⟨y, i1, h1, h2⟩ := and_ok h
      have g1 := hp _ _ _ _ h1
      have := chainL_go hp f _ _ _ _ _ g1.2.1 (by simp) h2
      simp only [List.length_append, List.length_cons, List.length_nil] at this
      omega
    · cases h; exact ⟨by omega, hi, by simp, ha, Nat.le_refl _⟩
theorem chain_go {ts : List Tp} {x : List UInt8} {kind : Int} {p : PN} (hp : GoN ts p) : GoN ts (chainS ts x kind p) := by
  intro i ns r j h
  obtain ⟨y, i1, h1, h2⟩ := and_ok h
  have g1 := hp _ _ _ _ h1
  have := chainL_go hp _ _ _ _ _ _ g1.2.1 g1.2.2.2.1 h2
  omega
theorem both_go {ts : List Tp} {p : PN} (hp : GoN ts p) : GoN ts (bothB ts p) := chain_go hp
theorem condB_go {ts : List Tp} {p : PN} (hp : GoN ts p) : GoN ts (condB ts p) := chain_go (both_go hp)
theorem inBr_go {ts : List Tp} {o : Option PN} (hp : ∀ p, o = some p → GoN ts p) : GoN ts (inBr ts o) := by
  intro i ns r j h
  unfold inBr at h
  split at h
  · cases o with
    | none => cases h
    | some p =>
      obtain ⟨y, i1, h1, h2⟩ := and_ok h
      obtain ⟨_, i2, h3, h4⟩ := and_ok h2
      have g1 := hp p rfl _ _ _ _ h1
      have g2 := want_go ts _ _ _ _ h3
      cases h4; omega
  · cases h
theorem notB_go {ts : List Tp} {o : Option PN} (hp : ∀ p, o = some p → GoN ts p) : GoN ts (notB ts o) := by
  intro i ns r j h
  unfold notB at h
  split at h
  · cases o with
    | none => cases h
    | some p =>
      obtain ⟨y, i1, h1, h2⟩ := and_ok h
      have g1 := hp p rfl _ _ _ _ h1
      cases h2
      simp; omega
  · split at h
    · refine inBr_go ?_ _ _ _ _ h
      intro q hq
      cases o with
      | none => cases hq
      | some p => cases hq; exact condB_go (hp p rfl)
    · obtain ⟨y, i1, h1, h2⟩ := and_ok h
      have g1 := test_go ts _ _ _ h1
      cases h2
      simp; omega
theorem not_go (ts : List Tp) : ∀ d, GoN ts (notS ts d)
  | 0 => notB_go (fun p h => by cases h)
  | d + 1 => notB_go (fun p h => by cases h; exact not_go ts d)
theorem cond_go (ts : List Tp) (d : Nat) : GoN ts (condS ts d) := condB_go (not_go ts d)
theorem stepB_go {ts : List Tp} {c : PN} {o : Option PN} (hc : GoN ts c) (hp : ∀ p, o = some p → GoN ts p) (rows i : Nat) (ns : List Np) (r : Np × List Np) (j : Nat) (h : stepB ts c o rows i ns = .ok r j) : i + 1 ≤ j ∧ j ≤ ts.length ∧ r.2.length + i ≤ ns.length + j ∧ ns.length ≤ r.2.length := by
  obtain ⟨k, i1, h1, h2⟩ := and_ok h
  have g1 := oneOf_go ts _ _ _ _ h1
  split at h2
  · obtain ⟨y, i2, h3, h4⟩ := and_ok h2
    have g2 := hc _ _ _ _ h3
    cases h4; simp; omega
  · obtain ⟨y, i2, h3, h4⟩ := and_ok h2
    have g2 := list_go (name_go ts) _ _ _ h3
    cases h4; simp; omega
  · obtain ⟨y, i2, h3, h4⟩ := and_ok h2
    have g2 := num_go ts _ _ _ h3
    cases h4; simp; omega
  · split at h2
    · obtain ⟨y, i2, h3, h4⟩ := and_ok h2
      have g2 := list_go (agg_go ts) _ _ _ h3
      cases h4; simp; omega
    · obtain ⟨y, i2, h3, h4⟩ := and_ok h2
      obtain ⟨_, i3, h5, h6⟩ := and_ok h4
      obtain ⟨_, i4, h7, h8⟩ := and_ok h6
      have g2 := list_go (name_go ts) _ _ _ h3
      have g3 := want_go ts _ _ _ _ h5
      have g4 := list_go (agg_go ts) _ _ _ h7
      cases h8; simp; omega
  · obtain ⟨y, i2, h3, h4⟩ := and_ok h2
    obtain ⟨_, i3, h5, h6⟩ := and_ok h4
    obtain ⟨_, i4, h7, h8⟩ := and_ok h6
    have g2 := num_go ts _ _ _ h3
    have g3 := want_go ts _ _ _ _ h5
    have g4 := name_go ts _ _ _ h7
    cases h8; simp; omega
  · obtain ⟨y, i2, h3, h4⟩ := and_ok h2
    have g2 := inBr_go hp _ _ _ _ h3
    cases h4; simp; omega
  · obtain ⟨y, i2, h3, h4⟩ := and_ok h2
    have g2 := inBr_go hp _ _ _ _ h3
    cases h4; simp; omega
theorem stepsL_go {ts : List Tp} {c : PN} {o : Option PN} (hc : GoN ts c) (hp : ∀ p, o = some p → GoN ts p) : ∀ f a i ns r j, i ≤ ts.length → a < ns.length → stepsL ts (stepB ts c o) f a i ns = .ok r j → i ≤ j ∧ j ≤ ts.length ∧ r.2.length + i ≤ ns.length + j ∧ r.1 < r.2.length ∧ ns.length ≤ r.2.length
  | 0, a, i, ns, r, j, hi, ha, h => by simp [stepsL] at h; obtain ⟨rfl, rfl⟩ := h; exact ⟨by omega, hi, by simp, ha, Nat.le_refl _⟩
  | f + 1, a, i, ns, r, j, hi, ha, h => by
    unfold stepsL at h
    split at h
    · obtain ⟨y, i1, h1, h2⟩ := and_ok h
      have g1 := stepB_go hc hp _ _ _ _ _ h1
      have := stepsL_go hc hp f _ _ _ _ _ g1.2.1 (by simp) h2
      simp only [List.length_append, List.length_cons, List.length_nil] at this
      omega
    · cases h; exact ⟨by omega, hi, by simp, ha, Nat.le_refl _⟩
theorem queryB_go {ts : List Tp} {c : PN} {o : Option PN} (hc : GoN ts c) (hp : ∀ p, o = some p → GoN ts p) : GoN ts (queryB ts c o) := by
  intro i ns r j h
  obtain ⟨y, i1, h1, h2⟩ := and_ok h
  have g1 := fetch_go ts _ _ _ h1
  have := stepsL_go hc hp _ _ _ _ _ _ g1.2 (by simp) h2
  simp only [List.length_append, List.length_cons, List.length_nil] at this
  omega
theorem query_go (ts : List Tp) : ∀ d, GoN ts (queryS ts d)
  | 0 => queryB_go (cond_go ts 0) (fun p h => by cases h)
  | d + 1 => queryB_go (cond_go ts (d + 1)) (fun p h => by cases h; exact query_go ts d)
end Go.Proofs.Ytjekpclbedbaoaa
namespace Go.Proofs.Ytjekpclbedbaoaa

/- What is read at a depth is read so at the next one, too. -/
def Mo (p q : PN) : Prop := ∀ i ns r j, p i ns = .ok r j → q i ns = .ok r j
theorem chainL_mo {ts : List Tp} {x : List UInt8} {kind : Int} {p q : PN} (h : Mo p q) : ∀ F a i ns r j, chainL ts x kind p F a i ns = .ok r j → chainL ts x kind q F a i ns = .ok r j
  | 0, a, i, ns, r, j, e => e
  | F + 1, a, i, ns, r, j, e => by
    rw [chainL] at e ⊢
    split at e
    · rename_i hw
      rw [if_pos hw]
      obtain ⟨y, i1, h1, h2⟩ := and_ok e
      rw [h _ _ _ _ h1]
      exact chainL_mo h F _ _ _ _ _ h2
    · rename_i hw; rw [if_neg hw]; exact e
theorem chain_mo {ts : List Tp} {x : List UInt8} {kind : Int} {p q : PN} (h : Mo p q) : Mo (chainS ts x kind p) (chainS ts x kind q) := by
  intro i ns r j e
  obtain ⟨y, i1, h1, h2⟩ := and_ok e
  unfold chainS
  rw [h _ _ _ _ h1]
  exact chainL_mo h _ _ _ _ _ _ h2
theorem condB_mo {ts : List Tp} {p q : PN} (h : Mo p q) : Mo (condB ts p) (condB ts q) := chain_mo (chain_mo h)
theorem inBr_mo {ts : List Tp} {o o' : Option PN} (ho : ∀ p, o = some p → ∃ q, o' = some q ∧ Mo p q) : Mo (inBr ts o) (inBr ts o') := by
  intro i ns r j h
  unfold inBr at h ⊢
  split at h
  · rename_i hw; rw [if_pos hw]
    cases o with
    | none => cases h
    | some p =>
      obtain ⟨q, rfl, hq⟩ := ho p rfl
      obtain ⟨y, i1, h1, h2⟩ := and_ok h
      show (q (i + 1) ns).and _ = _
      rw [hq _ _ _ _ h1]; exact h2
  · cases h
theorem notB_mo {ts : List Tp} {o o' : Option PN} (ho : ∀ p, o = some p → ∃ q, o' = some q ∧ Mo p q) : Mo (notB ts o) (notB ts o') := by
  intro i ns r j h
  unfold notB at h ⊢
  split at h
  · rename_i hw; rw [if_pos hw]
    cases o with
    | none => cases h
    | some p =>
      obtain ⟨q, rfl, hq⟩ := ho p rfl
      obtain ⟨y, i1, h1, h2⟩ := and_ok h
      show (q (i + 1) ns).and _ = _
      rw [hq _ _ _ _ h1]; exact h2
  · rename_i hw; rw [if_neg hw]
    split at h
    · rename_i hw2; rw [if_pos hw2]
      refine inBr_mo ?_ _ _ _ _ h
      intro c hc
      cases o with
      | none => cases hc
      | some p =>
        cases hc
        obtain ⟨q, rfl, hq⟩ := ho p rfl
        exact ⟨_, rfl, condB_mo hq⟩
    · rename_i hw2; rw [if_neg hw2]; exact h
theorem not_mo (ts : List Tp) : ∀ d, Mo (notS ts d) (notS ts (d + 1))
  | 0 => notB_mo (fun p h => by cases h)
  | d + 1 => notB_mo (fun p h => by cases h; exact ⟨_, rfl, not_mo ts d⟩)
theorem cond_mo (ts : List Tp) (d : Nat) : Mo (condS ts d) (condS ts (d + 1)) := condB_mo (not_mo ts d)

/- Y has, one place on from m, what X has from there, and then a closing bracket. -/
structure Rl (m : Nat) (X Y : List Tp) : Prop where
  len : Y.length = X.length + 2
  at_ : ∀ i, m ≤ i → i < X.length → ∃ t u, X[i]? = some t ∧ Y[i + 1]? = some u ∧ t.kind = u.kind ∧ t.s = u.s ∧ t.n = u.n
  last : ∃ u, Y[X.length + 1]? = some u ∧ u.kind = 4 ∧ u.s = wShut
section
variable {m : Nat} {X Y : List Tp}
theorem Rl.W (h : Rl m X Y) {i : Nat} (h1 : m ≤ i) (h2 : i < X.length) (x : List UInt8) : isW Y (i + 1) x = isW X i x := by
  obtain ⟨t, u, e1, e2, e3, e4, e5⟩ := h.at_ i h1 h2
  unfold isW; rw [e1, e2]; simp only [e3, e4]
theorem Rl.W' (h : Rl m X Y) {i : Nat} (h1 : m ≤ i) (h2 : i ≤ X.length) {x : List UInt8} (hx : ¬ x = wShut) : isW Y (i + 1) x = isW X i x := by
  rcases Nat.lt_or_ge i X.length with h3 | h3
  · exact h.W h1 h3 x
  · obtain rfl : i = X.length := by omega
    obtain ⟨u, e1, e2, e3⟩ := h.last
    have e4 : isW X X.length x = false := by unfold isW; rw [List.getElem?_eq_none (by omega)]
    rw [e4]; unfold isW; rw [e1]; simp only [e3]
    simp
    intro _ e; exact hx e.symm
theorem Rl.K (h : Rl m X Y) {i : Nat} (h1 : m ≤ i) (h2 : i ≤ X.length) {k : Int} (hk : ¬ k = 4) : isK Y (i + 1) k = isK X i k := by
  rcases Nat.lt_or_ge i X.length with h3 | h3
  · obtain ⟨t, u, e1, e2, e3, e4, e5⟩ := h.at_ i h1 h3
    unfold isK; rw [e1, e2]; simp only [e3]
  · obtain rfl : i = X.length := by omega
    obtain ⟨u, e1, e2, e3⟩ := h.last
    have e4 : isK X X.length k = false := by unfold isK; rw [List.getElem?_eq_none (by omega)]
    rw [e4]; unfold isK; rw [e1]; simp only [e2]
    simp; omega
def R1 (m : Nat) (X : List Tp) {α : Type} (f g : Nat → Rs α) : Prop := ∀ i x j, m ≤ i → i ≤ X.length → f i = .ok x j → g (i + 1) = .ok x (j + 1)
theorem take_r (h : Rl m X Y) {k : Int} (hk : ¬ k = 4) {i : Nat} {t : Tp} {j : Nat} (h1 : m ≤ i) (h2 : i ≤ X.length) (e : takeS X k i = .ok t j) : ∃ u, takeS Y k (i + 1) = .ok u (j + 1) ∧ u.s = t.s ∧ u.n = t.n := by
  unfold takeS at e ⊢
  rw [h.K h1 h2 hk]
  split at e
  · rename_i hh
    rw [if_pos hh]
    cases e
    obtain ⟨t, u, e1, e2, e3, e4, e5⟩ := h.at_ i h1 (isK_lt hh)
    refine ⟨_, rfl, ?_, ?_⟩ <;> unfold hereS <;> rw [e1, e2] <;> simp [e4, e5]
  · cases e
theorem name_r (h : Rl m X Y) : R1 m X (nameS X) (nameS Y) := by
  intro i x j h1 h2 e
  obtain ⟨t, i1, e1, e2⟩ := and_ok e
  obtain ⟨u, e3, e4, e5⟩ := take_r h (by decide) h1 h2 e1
  unfold nameS; rw [e3]; cases e2; simp [Rs.and, e4]
theorem num_r (h : Rl m X Y) : R1 m X (numS' X) (numS' Y) := by
  intro i x j h1 h2 e
  obtain ⟨t, i1, e1, e2⟩ := and_ok e
  obtain ⟨u, e3, e4, e5⟩ := take_r h (by decide) h1 h2 e1
  unfold numS'; rw [e3]; cases e2; simp [Rs.and, e5]
theorem text_r (h : Rl m X Y) : R1 m X (textV X) (textV Y) := by
  intro i x j h1 h2 e
  obtain ⟨t, i1, e1, e2⟩ := and_ok e
  obtain ⟨u, e3, e4, e5⟩ := take_r h (by decide) h1 h2 e1
  unfold textV; rw [e3]; cases e2; simp [Rs.and, e4]
theorem idx_r (h : Rl m X Y) {i : Nat} (h1 : m ≤ i) (h2 : i ≤ X.length) : ∀ (ws : List (List UInt8)) (k : Nat), ¬ wShut ∈ ws → idxOf Y (i + 1) ws k = idxOf X i ws k
  | [], _, _ => rfl
  | x :: r, k, hn => by
    unfold idxOf
    rw [h.W' h1 h2 (fun e => hn (by rw [e]; exact List.mem_cons_self)), idx_r h h1 h2 r (k + 1) (fun e => hn (List.mem_cons_of_mem _ e))]
theorem oneOf_r (h : Rl m X Y) {ws : List (List UInt8)} (hw : ¬ wShut ∈ ws) : R1 m X (oneOfS X ws) (oneOfS Y ws) := by
  intro i x j h1 h2 e
  unfold oneOfS at e ⊢
  rw [idx_r h h1 h2 ws 0 hw]
  split at e
  · cases e; rfl
  · cases e
theorem value_r (h : Rl m X Y) : R1 m X (valueS X) (valueS Y) := by
  intro i x j h1 h2 e
  unfold valueS at e ⊢
  rw [h.K h1 h2 (by decide), h.K h1 h2 (by decide)]
  split at e
  · rename_i hk; rw [if_pos hk]
    obtain ⟨y, i2, h3, h4⟩ := and_ok e
    rw [num_r h _ _ _ h1 h2 h3]; cases h4; rfl
  · rename_i hk; rw [if_neg hk]
    split at e
    · rename_i hk2; rw [if_pos hk2]; exact text_r h _ _ _ h1 h2 e
    · rename_i hk2; rw [if_neg hk2]
      obtain ⟨y, i2, h3, h4⟩ := and_ok e
      rw [oneOf_r h (by decide) _ _ _ h1 h2 h3]; cases h4; rfl
theorem test_r (h : Rl m X Y) : R1 m X (testS X) (testS Y) := by
  intro i x j h1 h2 e
  obtain ⟨k, i1, e1, e2⟩ := and_ok e
  have g1 := name_go X _ _ _ e1
  unfold testS
  rw [name_r h _ _ _ h1 h2 e1]
  show (if _ then _ else _) = _
  rw [h.W' (by omega) g1.2 (by decide)]
  split at e2
  · rename_i hw; rw [if_pos hw]
    obtain ⟨y, i2, h3, h4⟩ := and_ok e2
    have := isW_lt hw
    rw [text_r h _ _ _ (by omega) (by omega) h3]; cases h4; rfl
  · rename_i hw; rw [if_neg hw]
    obtain ⟨y, i2, h3, h4⟩ := and_ok e2
    obtain ⟨z, i3, h5, h6⟩ := and_ok h4
    have g2 := oneOf_go X _ _ _ _ h3
    rw [oneOf_r h (by decide) _ _ _ (by omega) g1.2 h3]
    show (valueS Y (i2 + 1)).and _ = _
    rw [value_r h _ _ _ (by omega) g2.2 h5]; cases h6; rfl
def RN (m : Nat) (X : List Tp) (p q : PN) : Prop := ∀ i ns r j, m ≤ i → i ≤ X.length → p i ns = .ok r j → q (i + 1) ns = .ok r (j + 1)
theorem chainL_r (h : Rl m X Y) {x : List UInt8} (hx : ¬ x = wShut) {kind : Int} {p q : PN} (hp : RN m X p q) (hg : GoN X p) : ∀ F F' a i ns r j, m ≤ i → i ≤ X.length → X.length ≤ F + i → X.length < F' + i → chainL X x kind p F a i ns = .ok r j → chainL Y x kind q F' a (i + 1) ns = .ok r (j + 1)
  | 0, F', a, i, ns, r, j, hm, hi, h1, h2, e => by
    simp [chainL] at e
    obtain ⟨rfl, rfl⟩ := e
    obtain ⟨F'', rfl⟩ : ∃ n, F' = n + 1 := ⟨F' - 1, by omega⟩
    have e : isW X i x = false := by unfold isW; rw [List.getElem?_eq_none (by omega)]
    rw [chainL, h.W' hm hi hx, e]; rfl
  | F + 1, F', a, i, ns, r, j, hm, hi, h1, h2, e => by
    obtain ⟨F'', rfl⟩ : ∃ n, F' = n + 1 := ⟨F' - 1, by omega⟩
    rw [chainL] at e ⊢
    rw [h.W' hm hi hx]
    split at e
    · rename_i hw
      rw [if_pos hw]
      have hlt := isW_lt hw
      obtain ⟨y, i1, h3, h4⟩ := and_ok e
      rw [hp _ _ _ _ (by omega) (by omega) h3]
      have g1 := hg _ _ _ _ h3
      exact chainL_r h hx hp hg F F'' _ _ _ _ _ (by omega) g1.2.1 (by omega) (by omega) h4
    · rename_i hw; rw [if_neg hw]; cases e; rfl
theorem chain_r (h : Rl m X Y) {x : List UInt8} (hx : ¬ x = wShut) {kind : Int} {p q : PN} (hp : RN m X p q) (hg : GoN X p) : RN m X (chainS X x kind p) (chainS Y x kind q) := by
  intro i ns r j hm hi e
  obtain ⟨y, i1, h1, h2⟩ := and_ok e
  have g1 := hg _ _ _ _ h1
  have hl := h.len
  unfold chainS
  rw [hp _ _ _ _ hm hi h1]
  exact chainL_r h hx hp hg _ _ _ _ _ _ _ (by omega) g1.2.1 (by omega) (by omega) h2
theorem condB_r (h : Rl m X Y) {p q : PN} (hp : RN m X p q) (hg : GoN X p) : RN m X (condB X p) (condB Y q) := chain_r h (by decide) (chain_r h (by decide) hp hg) (both_go hg)
theorem inBr_r (h : Rl m X Y) {o o' : Option PN} (ho : ∀ p, o = some p → ∃ q, o' = some q ∧ RN m X p q ∧ GoN X p) : RN m X (inBr X o) (inBr Y o') := by
  intro i ns r j hm hi e
  unfold inBr at e ⊢
  rw [h.W' hm hi (by decide)]
  split at e
  · rename_i hw; rw [if_pos hw]
    have hlt := isW_lt hw
    cases o with
    | none => cases e
    | some p =>
      obtain ⟨q, rfl, hq, hg⟩ := ho p rfl
      obtain ⟨y, i1, h1, h2⟩ := and_ok e
      obtain ⟨_, i2, h3, h4⟩ := and_ok h2
      have g1 := hg _ _ _ _ h1
      have hl : i1 < X.length := by have := want_go X _ _ _ _ h3; omega
      show (q (i + 1 + 1) ns).and _ = _
      rw [hq _ _ _ _ (by omega) (by omega) h1]
      show (wantS Y wShut (i1 + 1)).and _ = _
      unfold wantS at h3 ⊢
      rw [h.W (by omega) hl]
      split at h3
      · rename_i hs; rw [if_pos hs]; cases h3; cases h4; rfl
      · cases h3
  · cases e
theorem notB_r (h : Rl m X Y) {o o' : Option PN} (ho : ∀ p, o = some p → ∃ q, o' = some q ∧ RN m X p q ∧ GoN X p) : RN m X (notB X o) (notB Y o') := by
  intro i ns r j hm hi e
  unfold notB at e ⊢
  rw [h.W' hm hi (by decide), h.W' hm hi (by decide)]
  split at e
  · rename_i hw; rw [if_pos hw]
    have hlt := isW_lt hw
    cases o with
    | none => cases e
    | some p =>
      obtain ⟨q, rfl, hq, -⟩ := ho p rfl
      obtain ⟨y, i1, h1, h2⟩ := and_ok e
      show (q (i + 1 + 1) ns).and _ = _
      rw [hq _ _ _ _ (by omega) (by omega) h1]; cases h2; rfl
  · rename_i hw; rw [if_neg hw]
    split at e
    · rename_i hw2; rw [if_pos hw2]
      refine inBr_r h ?_ _ _ _ _ hm hi e
      intro c hc
      cases o with
      | none => cases hc
      | some p =>
        cases hc
        obtain ⟨q, rfl, hq, hg⟩ := ho p rfl
        exact ⟨_, rfl, condB_r h hq hg, condB_go hg⟩
    · rename_i hw2; rw [if_neg hw2]
      obtain ⟨y, i1, h1, h2⟩ := and_ok e
      rw [test_r h _ _ _ hm hi h1]; cases h2; rfl
theorem not_r (h : Rl m X Y) : ∀ d, RN m X (notS X d) (notS Y d)
  | 0 => notB_r h (fun p h => by cases h)
  | d + 1 => notB_r h (fun p hh => by cases hh; exact ⟨_, rfl, not_r h d, not_go X d⟩)
theorem cond_r (h : Rl m X Y) (d : Nat) : RN m X (condS X d) (condS Y d) := condB_r h (not_r h d) (not_go X d)
end

/- fetch x | where, and then. -/
abbrev hd4 (a0 a1 a2 a3 : Int) : List Tp := [⟨1, [102, 101, 116, 99, 104], 0, a0⟩, ⟨1, [120], 0, a1⟩, ⟨4, [124], 0, a2⟩, ⟨1, [119, 104, 101, 114, 101], 0, a3⟩]
def fxN : Np := { n0 with kind := 1, s := [120], to_ := 1099511627775 }
def whN (r : Nat) : Np := { n0 with kind := 2, l := [(0 : Int), (r : Int)] }
theorem br_q (a0 a1 a2 a3 : Int) (M X : List Tp) (hX : X = hd4 a0 a1 a2 a3 ++ M) : queryS X 16 0 [] = (condS X 16 4 [fxN]).and fun r j => stepsL X (stepB X (condS X 16) (some (queryS X 15))) (M.length + 3) r.2.length j (r.2 ++ [whN r.1]) := by
  subst hX
  show queryB _ _ _ 0 [] = _
  unfold queryB
  have e1 : fetchS (hd4 a0 a1 a2 a3 ++ M) 0 = .ok fxN 2 := rfl
  rw [e1]
  show stepsL _ _ (hd4 a0 a1 a2 a3 ++ M).length 0 2 [fxN] = _
  have e2 : (hd4 a0 a1 a2 a3 ++ M).length = M.length + 3 + 1 := by simp
  have e3 : isW (hd4 a0 a1 a2 a3 ++ M) 2 wBar = true := rfl
  have e4 : oneOfS (hd4 a0 a1 a2 a3 ++ M) stepW 3 = .ok 0 4 := rfl
  rw [e2, stepsL, e3, if_pos rfl]
  show (stepB _ _ _ 0 3 [fxN]).and _ = _
  unfold stepB
  rw [e4]
  simp only [Rs.and]
  generalize condS (hd4 a0 a1 a2 a3 ++ M) 16 4 [fxN] = c
  cases c <;> rfl
theorem none_W {ts : List Tp} {i : Nat} (h : ts.length ≤ i) (x : List UInt8) : isW ts i x = false := by unfold isW; rw [List.getElem?_eq_none h]
theorem steps_stop {ts : List Tp} {s : Nat → Nat → List Np → Rs (Np × List Np)} {F a i : Nat} {ns : List Np} (h : isW ts i wBar = false) : stepsL ts s F a i ns = .ok (a, ns) i := by
  cases F with
  | zero => rfl
  | succ F => rw [stepsL, h]; rfl
theorem chain_stop {ts : List Tp} {x : List UInt8} {kind : Int} {p : PN} {F a i : Nat} {ns : List Np} (h : isW ts i x = false) : chainL ts x kind p F a i ns = .ok (a, ns) i := by
  cases F with
  | zero => rfl
  | succ F => rw [chainL, h]; rfl
/- A whole that is read without an error. -/
theorem whole_ok {ts : List Tp} {p : PN} (hb : ∀ i c, p 0 [] = .bad i c → c ≠ 0) (h : (wholeS ts p).2.2 = 0) : ∃ r j, p 0 [] = .ok r j ∧ ts.length ≤ j ∧ (wholeS ts p).1 = r.2 := by
  unfold wholeS at h ⊢
  split at h
  · simp at h
  · rename_i hl
    rw [if_neg hl]
    cases hq : p 0 [] with
    | bad i c => rw [hq] at h; exact absurd h (hb i c hq)
    | ok r j =>
      rw [hq] at h
      simp only at h ⊢
      split at h
      · simp at h
      · rename_i h1
        rw [if_neg h1]
        split at h
        · simp at h
        · rename_i h2; rw [if_neg h2]; exact ⟨r, j, rfl, by omega, rfl⟩
theorem isW_s {ts : List Tp} {i : Nat} {x y : List UInt8} (h : isW ts i x = true) (hn : ¬ x = y) : isW ts i y = false := by
  unfold isW at h ⊢
  cases e : ts[i]? with
  | none => rfl
  | some t =>
    rw [e] at h
    simp only [decide_eq_true_eq, decide_eq_false_iff_not] at h ⊢
    rintro ⟨-, h2⟩; exact hn (h.2.symm.trans h2)
/- Both are the same. -/
theorem br_same {a0 a1 a2 a3 b0 b1 b2 b3 b4 : Int} {M N X Y : List Tp} (hX : X = hd4 a0 a1 a2 a3 ++ M) (hY : Y = hd4 b0 b1 b2 b3 ++ ⟨4, [40], 0, b4⟩ :: N) (hR : Rl 4 X Y)
    (bX : ∀ i c, queryS X 16 0 [] = .bad i c → c ≠ 0) (bY : ∀ i c, queryS Y 16 0 [] = .bad i c → c ≠ 0) (h1 : (parseS X).2.2 = 0) (h2 : (parseS Y).2.2 = 0) : (parseS X).1 = (parseS Y).1 := by
  obtain ⟨rX, jX, e1, l1, f1⟩ := whole_ok bX h1
  obtain ⟨rY, jY, e2, l2, f2⟩ := whole_ok bY h2
  unfold parseS
  rw [f1, f2]
  clear f1 f2 h1 h2 bX bY
  rw [br_q a0 a1 a2 a3 M X hX] at e1
  rw [br_q b0 b1 b2 b3 _ Y hY] at e2
  obtain ⟨cX, kX, e3, e4⟩ := and_ok e1
  obtain ⟨cY, kY, e5, e6⟩ := and_ok e2
  have hlX : 4 ≤ X.length := by rw [hX]; simp
  have gX := cond_go X 16 _ _ _ _ e3
  have s1 := cond_r hR 16 _ _ _ _ (Nat.le_refl _) hlX e3
  -- the bracket
  have o1 : isW Y 4 wNot = false := by rw [hY]; rfl
  have o2 : isW Y 4 wOpen = true := by rw [hY]; rfl
  obtain ⟨y1, i1, e7, e8⟩ := and_ok e5
  obtain ⟨y2, i2, e9, e10⟩ := and_ok e7
  have e11 : notB Y (some (notS Y 15)) 4 [fxN] = .ok y2 i2 := e9
  unfold notB at e11
  rw [o1, o2] at e11
  simp only [Bool.false_eq_true, if_false, if_true, Option.map_some] at e11
  unfold inBr at e11
  rw [o2] at e11
  simp only [if_true] at e11
  obtain ⟨y3, i3, e12, e13⟩ := and_ok e11
  obtain ⟨_, i4, e14, e15⟩ := and_ok e13
  have s2 := cond_mo Y 15 _ _ _ _ e12
  rw [s1] at s2
  cases s2
  cases e15
  unfold wantS at e14
  split at e14
  · rename_i hs
    cases e14
    have ek : kX = X.length := by
      rcases Nat.lt_or_ge kX X.length with h | h
      · rw [hR.W (by omega) h] at hs
        rw [steps_stop (isW_s hs (by decide))] at e4
        cases e4; omega
      · omega
    subst ek
    have hl := hR.len
    rw [chain_stop (none_W (by omega) _)] at e10
    cases e10
    rw [chain_stop (none_W (by omega) _)] at e8
    cases e8
    rw [steps_stop (none_W (by omega) _)] at e4 e6
    cases e4; cases e6; rfl
  · cases e14
end Go.Proofs.Ytjekpclbedbaoaa
