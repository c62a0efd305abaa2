/-
  A table's bytes, read: the plain function; there and back.
-/
import Derived.Test.YtjfholofgohcjaaPK
import Derived.Test.YtjfholofgohcjaaQVMath
namespace Go.Proofs.Ytjfholofgohcjaa
open Go.RowKit Go.Sort

def bodyS (xs : List UInt8) : Option (List UInt8) :=
  if xs.length < 4 then none
  else if (xs.drop 4).length < (numB (xs.take 4)).toNat then none
  else if ((xs.drop 4).drop (numB (xs.take 4)).toNat).length < 4 then none
  else if ¬ ((xs.drop 4).drop (numB (xs.take 4)).toNat).length = 4 then none
  else if numB ((xs.drop 4).drop (numB (xs.take 4)).toNat) = u (sum ((xs.drop 4).take (numB (xs.take 4)).toNat)) then some ((xs.drop 4).take (numB (xs.take 4)).toNat)
  else none
def frame (b : List UInt8) : List UInt8 := bigB (b.length : Int) 4 ++ (b ++ bigB (u (sum b)) 4)
theorem u_lt (x : W32) : 0 ≤ u x ∧ u x < 256 ^ 4 := u_range x
theorem numB_u (x : W32) : numB (bigB (u x) 4) = u x := numB_bigB (by decide) (u_lt x).1 (u_lt x).2
theorem len4 (n : Int) : (bigB n 4).length = 4 := bigB_len n 4
theorem take4' {a b : List UInt8} (h : a.length = 4) : (a ++ b).take 4 = a := by rw [← h]; exact List.take_left
theorem drop4' {a b : List UInt8} (h : a.length = 4) : (a ++ b).drop 4 = b := by rw [← h]; exact List.drop_left
theorem take2' {a b : List UInt8} (h : a.length = 2) : (a ++ b).take 2 = a := by rw [← h]; exact List.take_left
theorem drop2' {a b : List UInt8} (h : a.length = 2) : (a ++ b).drop 2 = b := by rw [← h]; exact List.drop_left
theorem pow2 : (256 : Int) ^ 2 = 65536 := by decide
theorem bodyS_frame {b : List UInt8} (h : b.length < 4294967296) : bodyS (frame b) = some b := by
  have hn : numB (bigB (b.length : Int) 4) = (b.length : Int) := numB_bigB (by decide) (by omega) (by show (b.length : Int) < 4294967296; omega)
  have e1 : (frame b).take 4 = bigB (b.length : Int) 4 := take4' (len4 _)
  have e2 : (frame b).drop 4 = b ++ bigB (u (sum b)) 4 := drop4' (len4 _)
  unfold bodyS
  rw [e1, e2, hn, Int.toNat_natCast, List.drop_left, List.take_left, numB_u]
  rw [if_neg (by unfold frame; rw [List.length_append, len4]; omega), if_neg (by rw [List.length_append]; omega), if_neg (by rw [len4]; decide), if_neg (by rw [len4]; decide), if_pos rfl]
theorem bodyS_back {xs b : List UInt8} (h : bodyS xs = some b) : frame b = xs ∧ b.length < 4294967296 := by
  unfold bodyS at h
  split at h
  · cases h
  · rename_i h1
    have hl : (xs.take 4).length = 4 := by simp; omega
    have hr := numB_range (xs := xs.take 4) (by omega)
    rw [hl] at hr
    have hr' : 0 ≤ numB (xs.take 4) ∧ numB (xs.take 4) < 4294967296 := hr
    have hb4 := bigB_numB (xs := xs.take 4) (by omega)
    rw [hl] at hb4
    generalize hn : (numB (xs.take 4)).toNat = n at *
    have hn' : numB (xs.take 4) = (n : Int) := by omega
    split at h
    · cases h
    · rename_i h2
      split at h
      · cases h
      · split at h
        · cases h
        · rename_i h3 h4
          have h4' : ((xs.drop 4).drop n).length = 4 := by omega
          split at h
          · rename_i h5
            cases h
            have hbl : ((xs.drop 4).take n).length = n := by rw [List.length_take]; omega
            refine ⟨?_, by rw [hbl]; omega⟩
            unfold frame
            have hs := bigB_numB (xs := (xs.drop 4).drop n) (by omega)
            rw [h4'] at hs
            rw [← h5, hs, hbl, ← hn', hb4, List.take_append_drop, List.take_append_drop]
          · cases h
theorem smallNm (r : List UInt8) (c : UInt8) : (ByteArray.mk (r.take c.toNat).toArray).size ≤ maxLen := smallTake r c
abbrev mkCol (r : List UInt8) (c k : UInt8) : Cl := ⟨⟨(r.take c.toNat).toArray⟩, (k.toNat : Int), smallNm r c⟩
def colP : List UInt8 → Option (Cl × List UInt8)
  | [] => none
  | c :: r => if c.toNat ≤ r.length then (match r.drop c.toNat with | [] => none | k :: r' => some (mkCol r c k, r')) else none
def colsP : Nat → List UInt8 → Option (List Cl × List UInt8)
  | 0, xs => some ([], xs)
  | n + 1, xs => match colP xs with | none => none | some (c, r) => match colsP n r with | none => none | some (cs, r') => some (c :: cs, r')
def rowP : List Cl → List UInt8 → Option (Rw × List UInt8)
  | [], xs => some ([], xs)
  | c :: cs, xs => match takeV c.kd xs with | none => none | some (x, r) => match rowP cs r with | none => none | some (q, r') => some (x :: q, r')
def rowsP (cs : List Cl) : Nat → List UInt8 → Option (List Rw × List UInt8)
  | 0, xs => some ([], xs)
  | n + 1, xs => match rowP cs xs with | none => none | some (q, r) => match rowsP cs n r with | none => none | some (qs, r') => some (q :: qs, r')
def tailP (cs : List Cl) (r1 : List UInt8) : Option (List Cl × List Rw) :=
  if r1.length < 2 then none
  else if numB (r1.take 2) ≤ 4096 then (match rowsP cs (numB (r1.take 2)).toNat (r1.drop 2) with | some (rs, []) => some (cs, rs) | _ => none)
  else none
def tabP : List UInt8 → Option (List Cl × List Rw)
  | [] => none
  | c :: r => match colsP c.toNat r with | none => none | some (cs, r1) => if colsB cs = true then tailP cs r1 else none
theorem colP_back {xs r : List UInt8} {c : Cl} (h : colP xs = some (c, r)) : colB c ++ r = xs := by
  cases xs with
  | nil => cases h
  | cons a q =>
    unfold colP at h
    simp only at h
    split at h
    · rename_i hl
      split at h
      · cases h
      · rename_i k r' hd
        cases h
        have hsz : (ByteArray.mk (q.take a.toNat).toArray).size = a.toNat := by show (q.take a.toNat).toArray.size = _; simp; omega
        show (bigB ((ByteArray.mk (q.take a.toNat).toArray).size : Int) 1 ++ q.take a.toNat) ++ bigB (k.toNat : Int) 1 ++ r = a :: q
        rw [hsz, bigB_one, bigB_one, List.append_assoc, show [k] ++ r = k :: r from rfl, ← hd, List.append_assoc, List.take_append_drop]; rfl
    · cases h
theorem colP_colB {c : Cl} {r : List UInt8} (hn : c.nm.size ≤ 255) (hk : 0 ≤ c.kd ∧ c.kd ≤ 255) : colP (colB c ++ r) = some (c, r) := by
  have hd : (dig (c.nm.size : Int) 0).toNat = c.nm.size := by have := dig_one (n := (c.nm.size : Int)) (by omega) (by omega); omega
  have hk' := dig_one (n := c.kd) (by omega) (by omega)
  have hlen : c.nm.data.toList.length = c.nm.size := by rw [Array.length_toList]; rfl
  have e : colB c ++ r = dig (c.nm.size : Int) 0 :: (c.nm.data.toList ++ (dig c.kd 0 :: r)) := by
    show (bigB (c.nm.size : Int) 1 ++ c.nm.data.toList) ++ bigB c.kd 1 ++ r = _
    simp only [bigB, List.cons_append, List.nil_append, List.append_assoc]
  rw [e]
  unfold colP
  simp only [hd]
  rw [if_pos (by rw [List.length_append, hlen]; omega), show (c.nm.data.toList ++ (dig c.kd 0 :: r)).drop c.nm.size = dig c.kd 0 :: r by rw [← hlen]; exact List.drop_left]
  simp only
  congr 2
  obtain ⟨nm, kd, sm⟩ := c
  simp only at hk' hlen hd
  simp only [mkCol, Cl.mk.injEq]
  refine ⟨?_, hk'⟩
  rw [hd, ← hlen, List.take_left]
theorem colsP_back {n : Nat} : ∀ {xs r : List UInt8} {cs : List Cl}, colsP n xs = some (cs, r) → cs.length = n ∧ colsBy cs ++ r = xs := by
  induction n with
  | zero => intro xs r cs h; simp only [colsP] at h; cases h; exact ⟨rfl, rfl⟩
  | succ n ih =>
    intro xs r cs h
    simp only [colsP] at h
    split at h
    · cases h
    · rename_i c q hc
      split at h
      · cases h
      · rename_i ds r' hd
        cases h
        obtain ⟨h1, h2⟩ := ih hd
        refine ⟨by rw [List.length_cons, h1], ?_⟩
        rw [colsBy, List.flatMap_cons, List.append_assoc, show ds.flatMap colB = colsBy ds from rfl, h2]
        exact colP_back hc
theorem colsP_colsBy {cs : List Cl} {r : List UInt8} (h : ∀ c ∈ cs, c.nm.size ≤ 255 ∧ 0 ≤ c.kd ∧ c.kd ≤ 255) : colsP cs.length (colsBy cs ++ r) = some (cs, r) := by
  induction cs with
  | nil => rfl
  | cons c cs ih =>
    have hc := h c (List.mem_cons_self ..)
    rw [colsBy, List.flatMap_cons, List.append_assoc, List.length_cons, colsP, colP_colB hc.1 hc.2]
    simp only
    rw [show cs.flatMap colB = colsBy cs from rfl, ih (fun d hd => h d (List.mem_cons_of_mem _ hd))]
def RngR (r : Rw) : Prop := ∀ x ∈ r, Rng x
theorem rowP_back {cs : List Cl} : ∀ {xs r : List UInt8} {q : Rw}, rowP cs xs = some (q, r) → (List.length q = cs.length ∧ ∀ j, j < List.length q → fitB cs[j]!.kd q[j]! = true) ∧ RngR q ∧ rowBy q ++ r = xs := by
  induction cs with
  | nil => intro xs r q h; simp only [rowP] at h; cases h; exact ⟨⟨rfl, fun j hj => absurd hj (Nat.not_lt_zero _)⟩, (fun x hx => by cases hx), rfl⟩
  | cons c cs ih =>
    intro xs r q h
    simp only [rowP] at h
    split at h
    · cases h
    · rename_i x r1 hx
      split at h
      · cases h
      · rename_i q' r' hq
        cases h
        obtain ⟨⟨h1, h2⟩, h3, h4⟩ := ih hq
        obtain ⟨k1, k2, k3⟩ := takeV_back hx
        refine ⟨⟨by rw [List.length_cons, List.length_cons, h1], fun j hj => ?_⟩, ?_, ?_⟩
        · cases j with
          | zero => simp [fitB, k1, k2]
          | succ j =>
            have := h2 j (by rw [List.length_cons] at hj; omega)
            simpa using this
        · intro y hy
          rcases List.mem_cons.1 hy with rfl | hy
          · exact takeV_rng hx
          · exact h3 y hy
        · rw [rowBy, List.flatMap_cons, List.append_assoc, show List.flatMap valB q' = rowBy q' from rfl, h4]; exact k3
theorem rowP_rowBy {cs : List Cl} : ∀ {q : Rw} {r : List UInt8}, (List.length q = cs.length ∧ ∀ j, j < List.length q → fitB cs[j]!.kd q[j]! = true) → RngR q → rowP cs (rowBy q ++ r) = some (q, r) := by
  induction cs with
  | nil =>
    intro q r h _
    have : q = [] := List.eq_nil_of_length_eq_zero h.1
    subst this; rfl
  | cons c cs ih =>
    intro q r h hr
    cases q with
    | nil => have := h.1; simp at this
    | cons x q =>
      have h0 := h.2 0 (by simp)
      simp only [List.getElem!_cons_zero, fitB, Bool.and_eq_true, decide_eq_true_eq] at h0
      rw [rowBy, List.flatMap_cons, List.append_assoc, rowP, ← h0.1, takeV_valB h0.2 (hr x (List.mem_cons_self ..))]
      simp only
      rw [show List.flatMap valB q = rowBy q from rfl, ih ⟨by have := h.1; simpa using this, fun j hj => by have := h.2 (j + 1) (by simpa using hj); simpa using this⟩ (fun y hy => hr y (List.mem_cons_of_mem _ hy))]
theorem rowB_iff {cs : List Cl} {q : Rw} : rowB cs q = true ↔ (List.length q = cs.length ∧ ∀ j, j < List.length q → fitB cs[j]!.kd q[j]! = true) := by simp only [rowB, decide_eq_true_eq]
theorem rowsP_back {cs : List Cl} {n : Nat} : ∀ {xs r : List UInt8} {qs : List Rw}, rowsP cs n xs = some (qs, r) → qs.length = n ∧ (∀ q ∈ qs, rowB cs q = true ∧ RngR q) ∧ rowsB qs ++ r = xs := by
  induction n with
  | zero => intro xs r qs h; simp only [rowsP] at h; cases h; exact ⟨rfl, (fun q hq => by cases hq), rfl⟩
  | succ n ih =>
    intro xs r qs h
    simp only [rowsP] at h
    split at h
    · cases h
    · rename_i q r1 hq
      split at h
      · cases h
      · rename_i qs' r' hqs
        cases h
        obtain ⟨h1, h2, h3⟩ := ih hqs
        obtain ⟨k1, k2, k3⟩ := rowP_back hq
        refine ⟨by rw [List.length_cons, h1], fun y hy => ?_, ?_⟩
        · rcases List.mem_cons.1 hy with rfl | hy
          · exact ⟨rowB_iff.2 k1, k2⟩
          · exact h2 y hy
        · rw [rowsB, List.flatMap_cons, List.append_assoc, show qs'.flatMap rowBy = rowsB qs' from rfl, h3]; exact k3
theorem rowsP_rowsB {cs : List Cl} {qs : List Rw} {r : List UInt8} (h : ∀ q ∈ qs, rowB cs q = true ∧ RngR q) : rowsP cs qs.length (rowsB qs ++ r) = some (qs, r) := by
  induction qs with
  | nil => rfl
  | cons q qs ih =>
    have hq := h q (List.mem_cons_self ..)
    rw [rowsB, List.flatMap_cons, List.append_assoc, List.length_cons, rowsP, rowP_rowBy (rowB_iff.1 hq.1) hq.2]
    simp only
    rw [show qs.flatMap rowBy = rowsB qs from rfl, ih (fun y hy => h y (List.mem_cons_of_mem _ hy))]
def RngT (rs : List Rw) : Prop := ∀ r ∈ rs, RngR r
theorem check_of {cs : List Cl} {rs : List Rw} (h : colsB cs = true) (hr : ∀ q ∈ rs, rowB cs q = true) : checkV cs rs = 0 := by
  unfold checkV
  rw [if_pos h, if_pos (List.all_eq_true.2 hr)]
theorem tabP_back {xs : List UInt8} {cs : List Cl} {rs : List Rw} (h : tabP xs = some (cs, rs)) : checkV cs rs = 0 ∧ rs.length ≤ 4096 ∧ RngT rs ∧ bodyB cs rs = xs := by
  cases xs with
  | nil => cases h
  | cons c r =>
    unfold tabP at h
    simp only at h
    split at h
    · cases h
    · rename_i ds r1 hc
      split at h
      · rename_i hcb
        obtain ⟨c1, c2⟩ := colsP_back hc
        unfold tailP at h
        split at h
        · cases h
        · rename_i h2
          split at h
          · rename_i h3
            split at h
            · rename_i qs hq
              cases h
              obtain ⟨q1, q2, q3⟩ := rowsP_back hq
              have hl : (r1.take 2).length = 2 := by simp; omega
              have hb := bigB_numB (xs := r1.take 2) (by omega)
              rw [hl] at hb
              have hrg := numB_range (xs := r1.take 2) (by omega)
              have hnn : numB (r1.take 2) = (rs.length : Int) := by rw [q1]; omega
              refine ⟨check_of hcb (fun q hq => (q2 q hq).1), by omega, fun q hq => (q2 q hq).2, ?_⟩
              rw [List.append_nil] at q3
              rw [bodyB, c1, bigB_one, ← hnn, hb, q3, List.take_append_drop, c2]; rfl
            · cases h
          · cases h
      · cases h
theorem tabP_bodyB {cs : List Cl} {rs : List Rw} (h : checkV cs rs = 0) (hl : rs.length ≤ 4096) (hr : RngT rs) : tabP (bodyB cs rs) = some (cs, rs) := by
  obtain ⟨hc, hrr⟩ := check_parts h
  obtain ⟨hcl, hcn⟩ := cols_parts hc
  have hd : (dig (cs.length : Int) 0).toNat = cs.length := by have := dig_one (n := (cs.length : Int)) (by omega) (by omega); omega
  have e : bodyB cs rs = dig (cs.length : Int) 0 :: (colsBy cs ++ (bigB (rs.length : Int) 2 ++ rowsB rs)) := rfl
  rw [e]
  unfold tabP
  simp only [hd]
  rw [colsP_colsBy (fun c hc' => by have := hcn c hc'; have := name_len this.1; omega)]
  simp only
  rw [if_pos hc]
  have h2 : (bigB (rs.length : Int) 2).length = 2 := bigB_len _ _
  have hn : numB (bigB (rs.length : Int) 2) = (rs.length : Int) := numB_bigB (by decide) (by omega) (by rw [pow2]; omega)
  have e1 : (bigB (rs.length : Int) 2 ++ rowsB rs).take 2 = bigB (rs.length : Int) 2 := take2' h2
  have e2 : (bigB (rs.length : Int) 2 ++ rowsB rs).drop 2 = rowsB rs := drop2' h2
  unfold tailP
  rw [if_neg (by rw [List.length_append, h2]; omega), e1, e2, hn, if_pos (by omega), Int.toNat_natCast]
  have := rowsP_rowsB (cs := cs) (qs := rs) (r := []) (fun q hq => ⟨hrr q hq, hr q hq⟩)
  rw [List.append_nil] at this
  rw [this]
def decS (xs : List UInt8) : Option (List Cl × List Rw) := match bodyS xs with | none => none | some b => tabP b
theorem decS_of {xs b : List UInt8} (h : bodyS xs = some b) : decS xs = tabP b := by unfold decS; rw [h]
theorem lt_big {n : Nat} (h : n ≤ 4300000) : n < 4294967296 := by omega
theorem encB_frame (cs : List Cl) (rs : List Rw) : encB cs rs = frame (bodyB cs rs) := rfl
theorem decS_encB {cs : List Cl} {rs : List Rw} (h : checkV cs rs = 0) (hl : rs.length ≤ 4096) (hr : RngT rs) : decS (encB cs rs) = some (cs, rs) := by
  rw [encB_frame]
  exact (decS_of (bodyS_frame (lt_big (body_len h hl)))).trans (tabP_bodyB h hl hr)
theorem decS_back {xs : List UInt8} {cs : List Cl} {rs : List Rw} (h : decS xs = some (cs, rs)) : checkV cs rs = 0 ∧ rs.length ≤ 4096 ∧ RngT rs ∧ encB cs rs = xs := by
  unfold decS at h
  split at h
  · cases h
  · rename_i b hb
    obtain ⟨h1, h2, h3, h4⟩ := tabP_back h
    exact ⟨h1, h2, h3, by rw [encB_frame, h4]; exact (bodyS_back hb).1⟩
theorem encB_inj {cs ds : List Cl} {rs qs : List Rw} (h : checkV cs rs = 0) (hl : rs.length ≤ 4096) (hr : RngT rs) (h' : checkV ds qs = 0) (hl' : qs.length ≤ 4096) (hr' : RngT qs) (he : encB cs rs = encB ds qs) : cs = ds ∧ rs = qs := by
  have h1 := decS_encB h hl hr
  rw [he, decS_encB h' hl' hr'] at h1
  cases h1; exact ⟨rfl, rfl⟩
end Go.Proofs.Ytjfholofgohcjaa
