/-
  Streams as plain data: a stream's text, that no two valid streams have the same, and what a dictionary answers.
-/
import Derived.Test.YtnjeocjachmbkaaQVMath
namespace Go.Proofs.Ytnjeocjachmbkaa
open Go.RowKit Go.Sort

structure Sm where
  nm : ByteArray
  ks : Rw
def eqSt (x y : Sm) : Bool := decide (x.nm = y.nm ∧ x.ks = y.ks)
theorem eqSt_iff (x y : Sm) : eqSt x y = true ↔ x = y := by
  cases x; cases y; simp [eqSt]
instance : DecidableEq Sm := fun x y => decidable_of_iff _ (eqSt_iff x y)
instance : Inhabited Sm := ⟨⟨⟨#[]⟩, []⟩⟩
def okK (ks : Rw) : Bool := ks.all validL
def keyB (x : Vl) : List UInt8 := dig x.k 0 :: valB x
def keysB (ks : Rw) : List UInt8 := ks.flatMap keyB
def txtL (s : Sm) : List UInt8 := keysB s.ks ++ (0 :: s.nm.data.toList)
def txt (s : Sm) : ByteArray := ⟨(txtL s).toArray⟩
theorem keysB_cons (x : Vl) (r : Rw) : keysB (x :: r) = keyB x ++ keysB r := rfl
theorem keysB_snoc (r : Rw) (x : Vl) : keysB (r ++ [x]) = keysB r ++ keyB x := by
  unfold keysB; rw [List.flatMap_append]; simp
theorem valid_k {x : Vl} (h : validL x = true) : 1 ≤ x.k ∧ x.k ≤ 4 := by
  rcases valid_kind h with ⟨hk, _⟩ | ⟨hk, _⟩ | ⟨hk, _⟩ | ⟨hk, _⟩ <;> omega
theorem dig_k {x : Vl} (h : validL x = true) : ((dig x.k 0).toNat : Int) = x.k := by
  have := valid_k h
  exact dig_one (by omega) (by omega)
theorem data_inj {s t : ByteArray} (h : s.data.toList = t.data.toList) : s = t := by
  obtain ⟨⟨x⟩⟩ := s
  obtain ⟨⟨y⟩⟩ := t
  simp at h
  subst h; rfl
def Gd (s : Sm) : Prop := okK s.ks = true ∧ ∀ x ∈ s.ks, Rng x
theorem txtL_aux {n n' : ByteArray} : ∀ {a b : Rw}, okK a = true → (∀ x ∈ a, Rng x) → okK b = true → (∀ x ∈ b, Rng x) → keysB a ++ (0 :: n.data.toList) = keysB b ++ (0 :: n'.data.toList) → a = b ∧ n = n'
  | [], [], _, _, _, _, h => by
    simp [keysB] at h
    exact ⟨rfl, data_inj (by rw [h])⟩
  | [], y :: r, _, _, hb, _, h => by
    exfalso
    simp only [okK, List.all_cons, Bool.and_eq_true] at hb
    have hk := dig_k hb.1
    have := valid_k hb.1
    rw [keysB_cons] at h
    simp only [keysB, keyB, List.flatMap_nil, List.nil_append, List.cons_append, List.cons.injEq] at h
    rw [← h.1] at hk
    simp at hk
    omega
  | x :: r, [], ha, _, _, _, h => by
    exfalso
    simp only [okK, List.all_cons, Bool.and_eq_true] at ha
    have hk := dig_k ha.1
    have := valid_k ha.1
    rw [keysB_cons] at h
    simp only [keysB, keyB, List.flatMap_nil, List.nil_append, List.cons_append, List.cons.injEq] at h
    rw [h.1] at hk
    simp at hk
    omega
  | x :: r, y :: q, ha, ra, hb, rb, h => by
    simp only [okK, List.all_cons, Bool.and_eq_true] at ha hb
    have hkx := dig_k ha.1
    have hky := dig_k hb.1
    rw [keysB_cons, keysB_cons] at h
    simp only [keyB, List.cons_append, List.append_assoc, List.cons.injEq] at h
    have hk : x.k = y.k := by rw [← hkx, ← hky, h.1]
    have t1 := takeV_valB (r := keysB r ++ (0 :: n.data.toList)) ha.1 (ra x (List.mem_cons_self ..))
    have t2 := takeV_valB (r := keysB q ++ (0 :: n'.data.toList)) hb.1 (rb y (List.mem_cons_self ..))
    rw [h.2, hk, t2] at t1
    simp only [Option.some.injEq, Prod.mk.injEq] at t1
    obtain ⟨e1, e2⟩ := t1
    obtain ⟨e3, e4⟩ := txtL_aux (a := r) (b := q) ha.2 (fun z hz => ra z (List.mem_cons_of_mem _ hz)) hb.2 (fun z hz => rb z (List.mem_cons_of_mem _ hz)) e2.symm
    exact ⟨by rw [e1, e3], e4⟩
theorem txt_inj {s t : Sm} (hs : Gd s) (ht : Gd t) (h : txt s = txt t) : s = t := by
  have h1 : txtL s = txtL t := by
    have := congrArg (fun b => b.data.toList) h
    simpa [txt] using this
  obtain ⟨e1, e2⟩ := txtL_aux hs.1 hs.2 ht.1 ht.2 h1
  cases s; cases t; simp_all
theorem vld_len {x : Vl} (h : validL x = true) : x.s.size ≤ 64 := by
  unfold validL validB at h
  split at h
  · simp only [Bool.and_eq_true, decide_eq_true_eq] at h; rw [h.1]; decide
  · split at h
    · simp only [Bool.and_eq_true, decide_eq_true_eq] at h; exact h.2.2
    · split at h
      · simp only [Bool.and_eq_true, decide_eq_true_eq] at h; rw [h.2.1]; decide
      · split at h
        · simp only [Bool.and_eq_true, decide_eq_true_eq] at h; rw [h.2]; decide
        · cases h
theorem vlB_len {x : Vl} (h : validL x = true) : (valB x).length ≤ 65 := by
  rcases valid_kind h with ⟨hk, _⟩ | ⟨hk, _, _, hs⟩ | ⟨hk, _⟩ | ⟨hk, _⟩
  · rw [valB_1 hk, bigB_len]; omega
  · rw [valB_2 hk, txtB_len]; omega
  · rw [valB_3 hk, bigB_len]; omega
  · rw [valB_4 (by omega) (by omega) (by omega), hisB_len]; simp
theorem keysB_len : ∀ {r : Rw}, okK r = true → (keysB r).length ≤ 66 * List.length r
  | [], _ => by simp [keysB]
  | x :: r, h => by
    simp only [okK, List.all_cons, Bool.and_eq_true] at h
    have h1 := vlB_len h.1
    have h2 := keysB_len (r := r) h.2
    rw [keysB_cons, List.length_append]
    simp only [keyB, List.length_cons]
    omega
/- What a dictionary answers. -/
def posS (s : Sm) : List Sm → Nat
  | [] => 0
  | y :: r => if y = s then 0 else posS s r + 1
theorem posS_lt {s : Sm} : ∀ {l : List Sm}, s ∈ l → posS s l < l.length
  | y :: r, h => by
    unfold posS
    by_cases e : y = s
    · rw [if_pos e]; simp
    · rw [if_neg e]
      have h' : s ∈ r := by
        rcases List.mem_cons.1 h with rfl | h
        · exact absurd rfl e
        · exact h
      have := posS_lt h'
      simp; omega
theorem posS_get {s : Sm} : ∀ {l : List Sm}, s ∈ l → l[posS s l]? = some s
  | y :: r, h => by
    unfold posS
    by_cases e : y = s
    · rw [if_pos e, e]; rfl
    · rw [if_neg e]
      have h' : s ∈ r := by
        rcases List.mem_cons.1 h with rfl | h
        · exact absurd rfl e
        · exact h
      simpa using posS_get h'
theorem posS_app {s t : Sm} : ∀ {l : List Sm}, s ∈ l → posS s (l ++ [t]) = posS s l
  | y :: r, h => by
    rw [List.cons_append]
    unfold posS
    by_cases e : y = s
    · rw [if_pos e, if_pos e]
    · rw [if_neg e, if_neg e]
      have h' : s ∈ r := by
        rcases List.mem_cons.1 h with rfl | h
        · exact absurd rfl e
        · exact h
      rw [posS_app h']
theorem posS_new {s : Sm} : ∀ {l : List Sm}, s ∉ l → posS s (l ++ [s]) = l.length
  | [], _ => by simp [posS]
  | y :: r, h => by
    rw [List.cons_append]
    unfold posS
    rw [if_neg (fun e => h (by rw [e]; exact List.mem_cons_self ..)), posS_new (fun e => h (List.mem_cons_of_mem _ e))]
    simp
theorem posS_at {l : List Sm} (hn : l.Nodup) {i : Nat} {s : Sm} (h : l[i]? = some s) : posS s l = i := by
  have hm : s ∈ l := List.mem_of_getElem? h
  have h2 := posS_get hm
  have hi := (List.getElem?_eq_some_iff.1 h).1
  have hj := posS_lt hm
  rw [List.getElem?_eq_getElem hi] at h
  rw [List.getElem?_eq_getElem hj] at h2
  exact (List.getElem_inj hn).1 (by simp at h h2; rw [h, h2])
def memS (l : List Sm) (s : Sm) : Bool := decide (s ∈ l)
def findI (l : List Sm) (s : Sm) : Int := if s ∈ l then (posS s l : Int) else 0
def fullB (most : Int) (l : List Sm) : Bool := decide (most ≤ (l.length : Int))
def addL (most : Int) (l : List Sm) (s : Sm) : List Sm := if okK s.ks && !memS l s && !fullB most l then l ++ [s] else l
def addI (most : Int) (l : List Sm) (s : Sm) : Int := if okK s.ks then (if s ∈ l then (posS s l : Int) else if fullB most l then 0 else (l.length : Int)) else 0
def addE (most : Int) (l : List Sm) (s : Sm) : Int := if okK s.ks then (if s ∈ l then 0 else if fullB most l then 80 else 0) else 10
/- What a dictionary holds: no stream twice, all of them good. -/
structure Dc (l : List Sm) : Prop where
  nd : l.Nodup
  gd : ∀ s ∈ l, Gd s
theorem Dc.nil : Dc [] := ⟨List.nodup_nil, fun _ h => by cases h⟩
theorem Dc.add {most : Int} {l : List Sm} {s : Sm} (h : Dc l) (hr : ∀ x ∈ s.ks, Rng x) : Dc (addL most l s) := by
  unfold addL
  split
  · rename_i hc
    simp only [Bool.and_eq_true, Bool.not_eq_true', memS, decide_eq_false_iff_not] at hc
    refine ⟨?_, fun t ht => ?_⟩
    · rw [List.nodup_append]
      exact ⟨h.nd, by simp, fun a ha b hb => by simp at hb; subst hb; exact fun e => hc.1.2 (e ▸ ha)⟩
    · rcases List.mem_append.1 ht with ht | ht
      · exact h.gd t ht
      · simp at ht; subst ht; exact ⟨hc.1.1, hr⟩
  · exact h
theorem memS_bad {l : List Sm} {s : Sm} (h : Dc l) (hb : okK s.ks = false) : memS l s = false := by
  unfold memS
  rw [decide_eq_false_iff_not]
  intro hm
  have := (h.gd s hm).1
  rw [hb] at this
  cases this
theorem findI_bad {l : List Sm} {s : Sm} (h : Dc l) (hb : okK s.ks = false) : findI l s = 0 := by
  have := memS_bad h hb
  unfold memS at this
  rw [decide_eq_false_iff_not] at this
  exact if_neg this
def ofL (nm : ByteArray) : Nat → List Sm → List Int
  | _, [] => []
  | i, y :: r => if y.nm = nm then (i : Int) :: ofL nm (i + 1) r else ofL nm (i + 1) r
theorem ofL_snoc (nm : ByteArray) : ∀ (i : Nat) (l : List Sm) (y : Sm), ofL nm i (l ++ [y]) = ofL nm i l ++ (if y.nm = nm then [((i + l.length : Nat) : Int)] else [])
  | i, [], y => by simp [ofL]
  | i, z :: r, y => by
    rw [List.cons_append]
    unfold ofL
    rw [ofL_snoc nm (i + 1) r y]
    have e : i + 1 + r.length = i + (z :: r).length := by simp; omega
    rw [e]
    split <;> simp
theorem ofL_len (nm : ByteArray) : ∀ (i : Nat) (l : List Sm), (ofL nm i l).length ≤ l.length
  | _, [] => by simp [ofL]
  | i, y :: r => by
    have := ofL_len nm (i + 1) r
    unfold ofL
    split <;> simp <;> omega
end Go.Proofs.Ytnjeocjachmbkaa
