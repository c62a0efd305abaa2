/-
  What wire.told, the deferred closures and Go's slices.Clone of bytes return.
  A value's bytes, read: the plain function, and that the reader's value is it.
  A value's bytes, there and back.
  Streams as plain data: a stream's text, that no two valid streams have the same, and what a dictionary answers.
  Samples as plain data: a run of them, what is added, what is told of a moment and of some time.
  What table.Name and the reference's Name return, for every text.
-/
import Derived.Test.YtlbjbkhcnafhcaaGreatP04NumMath
import Derived.Test.YtlbjbkhcnafhcaaGreatP03CrcOwn
import Derived.Defers
import Derived.Recover
namespace Go.Proofs.YtlbjbkhcnafhcaaGreat.SN
open Go.RowKit Go.Sort

set_option maxHeartbeats 400000 in
theorem cloneB_any {v : Value} {xs : List UInt8} {w : World} (hv : BAt w v xs) (hl : xs.length ≤ 140737488355328) :
    Calls Tryz.prog 105 #[v] w fun e w' => ∃ v', e = .returned v' ∧ OwnB w.heap.size w' v' xs ∧ Below w.heap.size w w' := by
  have HV := hid hv
  have HL := hid hl
  clear hl
  obtain ⟨p, cap, rfl, hcap, hnone, hmax, hx⟩ := hv
  have q41 : ∀ (w : World) (a : Option Addr) (n c n' c' : Nat), (binOp .eql 57 (.slice a n c) (.slice none n' c')).run Tryz.prog w = .ok (.bool a.isNone) w := fun w a n c n' c' => Lib.run_eql_slice_nil w _ _ a n c n' c' Tryz.underlying57
  cases p with
  | none =>
    have hn : xs = [] := by
      cases xs with
      | nil => rfl
      | cons y r => obtain ⟨b, hp, _⟩ := hx (by simp); cases hp
    subst hn
    clear hx hcap hmax hnone
    go_enter Tryz.func105, Tryz.ntmps105
    go_wp2
    go_ret
    exact ⟨_, rfl, OwnB.nil _ _, Below.refl _ _⟩
  | some ad =>
    clear hx hcap hmax hnone
    generalize xs.length = n at *
    go_enter Tryz.func105, Tryz.ntmps105
    go_wp2_with (at_builtin; refine appB_any rfl _ _ rfl rfl (OwnB.made w.heap.size w (Nat.le_refl _)) rfl (BAt.on HV.out ((Below.refl _ _).alloc (Nat.le_refl _) _)) (by obtain ⟨_, _, e, _⟩ := HV.out; injection e with _ e; simp; rw [← e]; exact HL.out) (by simp) ?_; intro v' w1 hown hb1)
    go_ret
    exact ⟨_, rfl, by rw [List.nil_append] at hown; exact hown, ((Below.refl _ _).alloc (Nat.le_refl _) _).trans hb1⟩
end Go.Proofs.YtlbjbkhcnafhcaaGreat.SN
namespace Go.Proofs.YtlbjbkhcnafhcaaGreat.SN
open Go.RowKit Go.Sort

theorem small0 : (ByteArray.mk #[]).size ≤ maxLen := by decide
theorem smallTake (xs : List UInt8) (c : UInt8) : (ByteArray.mk (xs.take c.toNat).toArray).size ≤ maxLen := by
  show (xs.take c.toNat).toArray.size ≤ maxLen
  have := c.toNat_lt
  simp [maxLen]; omega
abbrev vInt (xs : List UInt8) : Vl := ⟨1, numB (xs.take 8), ⟨#[]⟩, 0, 0, 0, 0, 0, 0, 0, 0, small0⟩
abbrev vStr (xs : List UInt8) (c : UInt8) : Vl := ⟨2, 0, ⟨(xs.take c.toNat).toArray⟩, 0, 0, 0, 0, 0, 0, 0, 0, smallTake xs c⟩
abbrev vBool (c : UInt8) : Vl := ⟨3, (c.toNat : Int), ⟨#[]⟩, 0, 0, 0, 0, 0, 0, 0, 0, small0⟩
abbrev vHist (xs : List UInt8) : Vl := ⟨4, 0, ⟨#[]⟩, bkt xs 0, bkt xs 1, bkt xs 2, bkt xs 3, bkt xs 4, bkt xs 5, bkt xs 6, bkt xs 7, small0⟩
def takeV (k : Int) (xs : List UInt8) : Option (Vl × List UInt8) :=
  if k = 1 then (if 8 ≤ xs.length then some (vInt xs, xs.drop 8) else none)
  else if k = 2 then (match xs with | [] => none | c :: r => if c.toNat ≤ r.length ∧ c.toNat ≤ 64 then some (vStr r c, r.drop c.toNat) else none)
  else if k = 3 then (match xs with | [] => none | c :: r => if c.toNat ≤ 1 then some (vBool c, r) else none)
  else if k = 4 then (if 64 ≤ xs.length then some (vHist xs, xs.drop 64) else none)
  else none
end Go.Proofs.YtlbjbkhcnafhcaaGreat.SN
namespace Go.Proofs.YtlbjbkhcnafhcaaGreat.SN
open Go.RowKit Go.Sort

def Rg (n : Int) : Prop := -9223372036854775808 ≤ n ∧ n ≤ 9223372036854775807
structure Rng (x : Vl) : Prop where
  n : Rg x.n
  h0 : Rg x.h0
  h1 : Rg x.h1
  h2 : Rg x.h2
  h3 : Rg x.h3
  h4 : Rg x.h4
  h5 : Rg x.h5
  h6 : Rg x.h6
  h7 : Rg x.h7
theorem dig_one {n : Int} (h0 : 0 ≤ n) (h1 : n < 256) : ((dig n 0).toNat : Int) = n := by
  rw [dig_nat]; simp; omega
theorem bigB_one (c : UInt8) : bigB (c.toNat : Int) 1 = [c] := by
  have hc := c.toNat_lt
  show [dig (c.toNat : Int) 0] = [c]
  congr 1
  apply UInt8.toNat_inj.1
  have := dig_one (n := (c.toNat : Int)) (by omega) (by omega)
  omega
theorem mk_list (s : ByteArray) : (⟨s.data.toList.toArray⟩ : ByteArray) = s := rfl
theorem zeroH_iff {a0 a1 a2 a3 a4 a5 a6 a7 : Int} (h : zeroH a0 a1 a2 a3 a4 a5 a6 a7 = true) : a0 = 0 ∧ a1 = 0 ∧ a2 = 0 ∧ a3 = 0 ∧ a4 = 0 ∧ a5 = 0 ∧ a6 = 0 ∧ a7 = 0 := by
  simpa [zeroH, eqH] using h
theorem valid_kind {x : Vl} (h : validL x = true) : (x.k = 1 ∧ x.s = noText ∧ zeroH x.h0 x.h1 x.h2 x.h3 x.h4 x.h5 x.h6 x.h7 = true) ∨ (x.k = 2 ∧ x.n = 0 ∧ zeroH x.h0 x.h1 x.h2 x.h3 x.h4 x.h5 x.h6 x.h7 = true ∧ x.s.size ≤ 64) ∨
    (x.k = 3 ∧ (x.n = 0 ∨ x.n = 1) ∧ x.s = noText ∧ zeroH x.h0 x.h1 x.h2 x.h3 x.h4 x.h5 x.h6 x.h7 = true) ∨ (x.k = 4 ∧ x.n = 0 ∧ x.s = noText) := by
  unfold validL validB at h
  split at h
  · simp only [Bool.and_eq_true, decide_eq_true_eq] at h; exact .inl ⟨by assumption, h⟩
  · split at h
    · simp only [Bool.and_eq_true, decide_eq_true_eq] at h; exact .inr (.inl ⟨by assumption, h.1, h.2.1, h.2.2⟩)
    · split at h
      · simp only [Bool.and_eq_true, decide_eq_true_eq] at h; exact .inr (.inr (.inl ⟨by assumption, h.1, h.2.1, h.2.2⟩))
      · split at h
        · simp only [Bool.and_eq_true, decide_eq_true_eq] at h; exact .inr (.inr (.inr ⟨by assumption, h.1, h.2⟩))
        · cases h
theorem take_left8 {a b : List UInt8} (h : a.length = 8) : (a ++ b).take 8 = a := by rw [← h]; exact List.take_left
theorem drop_left8 {a b : List UInt8} (h : a.length = 8) : (a ++ b).drop 8 = b := by rw [← h]; exact List.drop_left
theorem bkt_zero {n : Int} {b : List UInt8} (h : Rg n) : bkt (bigB n 8 ++ b) 0 = n := by
  unfold bkt
  rw [Nat.mul_zero, List.drop_zero, take_left8 (bigB_len _ _)]
  exact numB_bigB8 h.1 h.2
theorem bkt_succ {n : Int} {b : List UInt8} (i : Nat) : bkt (bigB n 8 ++ b) (i + 1) = bkt b i := by
  unfold bkt
  rw [show 8 * (i + 1) = 8 + 8 * i by omega, ← List.drop_drop, drop_left8 (bigB_len _ _)]
theorem hisB_cons (a : Int) (l : List Int) : hisB (a :: l) = bigB a 8 ++ hisB l := rfl
theorem takeV_valB {x : Vl} {r : List UInt8} (hv : validL x = true) (hr : Rng x) : takeV x.k (valB x ++ r) = some (x, r) := by
  rcases valid_kind hv with ⟨hk, hs, hz⟩ | ⟨hk, hn, hz, hs⟩ | ⟨hk, hn, hs, hz⟩ | ⟨hk, hn, hs⟩
  · obtain ⟨z0, z1, z2, z3, z4, z5, z6, z7⟩ := zeroH_iff hz
    rw [valB_1 hk, hk]
    unfold takeV
    rw [if_pos rfl, if_pos (by rw [List.length_append, bigB_len]; omega), drop_left8 (bigB_len _ _)]
    congr 2
    obtain ⟨k, n, s, a0, a1, a2, a3, a4, a5, a6, a7, sm⟩ := x
    simp only at hk hs z0 z1 z2 z3 z4 z5 z6 z7
    subst hk hs z0 z1 z2 z3 z4 z5 z6 z7
    simp only [vInt, Vl.mk.injEq, and_true, true_and, take_left8 (bigB_len _ _)]
    exact ⟨numB_bigB8 hr.n.1 hr.n.2, rfl⟩
  · obtain ⟨z0, z1, z2, z3, z4, z5, z6, z7⟩ := zeroH_iff hz
    rw [valB_2 hk, hk]
    have hd : (dig (x.s.size : Int) 0).toNat = x.s.size := by
      have := dig_one (n := (x.s.size : Int)) (by omega) (by omega); omega
    have ht : txtB x.s ++ r = dig (x.s.size : Int) 0 :: (x.s.data.toList ++ r) := rfl
    have hlen : x.s.data.toList.length = x.s.size := by rw [Array.length_toList]; rfl
    rw [ht]
    unfold takeV
    rw [if_neg (by decide), if_pos rfl]
    simp only [hd]
    rw [if_pos ⟨by rw [List.length_append, hlen]; omega, hs⟩, show (x.s.data.toList ++ r).drop x.s.size = r by rw [← hlen]; exact List.drop_left]
    congr 2
    have htk : (x.s.data.toList ++ r).take (dig (x.s.size : Int) 0).toNat = x.s.data.toList := by rw [hd, ← hlen]; exact List.take_left
    obtain ⟨k, n, s, a0, a1, a2, a3, a4, a5, a6, a7, sm⟩ := x
    simp only at hk hn z0 z1 z2 z3 z4 z5 z6 z7 htk
    subst hk hn z0 z1 z2 z3 z4 z5 z6 z7
    simp only [vStr, htk]
  · obtain ⟨z0, z1, z2, z3, z4, z5, z6, z7⟩ := zeroH_iff hz
    rw [valB_3 hk, hk]
    have hn' : 0 ≤ x.n ∧ x.n ≤ 1 := by omega
    have hd := dig_one (n := x.n) (by omega) (by omega)
    have ht : bigB x.n 1 ++ r = dig x.n 0 :: r := rfl
    rw [ht]
    unfold takeV
    rw [if_neg (by decide), if_neg (by decide), if_pos rfl]
    simp only
    rw [if_pos (by omega)]
    congr 2
    obtain ⟨k, n, s, a0, a1, a2, a3, a4, a5, a6, a7, sm⟩ := x
    simp only at hk hs z0 z1 z2 z3 z4 z5 z6 z7 hd
    subst hk hs z0 z1 z2 z3 z4 z5 z6 z7
    simp only [vBool, Vl.mk.injEq, and_true, true_and]
    exact ⟨hd, rfl⟩
  · have h1 : ¬ x.k = 1 := by omega
    have h2 : ¬ x.k = 2 := by omega
    have h3 : ¬ x.k = 3 := by omega
    rw [valB_4 h1 h2 h3, hk]
    have hl : (hisB [x.h0, x.h1, x.h2, x.h3, x.h4, x.h5, x.h6, x.h7]).length = 64 := by rw [hisB_len]; rfl
    unfold takeV
    rw [if_neg (by decide), if_neg (by decide), if_neg (by decide), if_pos rfl, if_pos (by rw [List.length_append, hl]; omega), show (hisB [x.h0, x.h1, x.h2, x.h3, x.h4, x.h5, x.h6, x.h7] ++ r).drop 64 = r by rw [← hl]; exact List.drop_left]
    congr 2
    obtain ⟨k, n, s, a0, a1, a2, a3, a4, a5, a6, a7, sm⟩ := x
    simp only at hk hs hn
    subst hk hs hn
    simp only [vHist, Vl.mk.injEq, true_and, hisB_cons, List.append_assoc]
    refine ⟨rfl, bkt_zero hr.h0, ?_, ?_, ?_, ?_, ?_, ?_, ?_⟩
    · rw [bkt_succ]; exact bkt_zero hr.h1
    · rw [bkt_succ, bkt_succ]; exact bkt_zero hr.h2
    · rw [bkt_succ, bkt_succ, bkt_succ]; exact bkt_zero hr.h3
    · rw [bkt_succ, bkt_succ, bkt_succ, bkt_succ]; exact bkt_zero hr.h4
    · rw [bkt_succ, bkt_succ, bkt_succ, bkt_succ, bkt_succ]; exact bkt_zero hr.h5
    · rw [bkt_succ, bkt_succ, bkt_succ, bkt_succ, bkt_succ, bkt_succ]; exact bkt_zero hr.h6
    · rw [bkt_succ, bkt_succ, bkt_succ, bkt_succ, bkt_succ, bkt_succ, bkt_succ]; exact bkt_zero hr.h7
theorem bkt_back {xs : List UInt8} {i : Nat} (h : 8 * i + 8 ≤ xs.length) : bigB (bkt xs i) 8 = (xs.drop (8 * i)).take 8 := by
  have hl : ((xs.drop (8 * i)).take 8).length = 8 := by simp; omega
  have := bigB_numB (xs := (xs.drop (8 * i)).take 8) (by omega)
  rw [hl] at this
  exact this
theorem his_back (xs : List UInt8) : ∀ (m i : Nat), 8 * (i + m) ≤ xs.length → hisB ((List.range' i m).map (bkt xs)) = (xs.drop (8 * i)).take (8 * m)
  | 0, i, _ => by simp [hisB]
  | m + 1, i, h => by
    rw [List.range'_succ, List.map_cons, hisB_cons, his_back xs m (i + 1) (by omega), bkt_back (by omega), show 8 * (m + 1) = 8 + 8 * m by omega, show 8 * (i + 1) = 8 * i + 8 by omega, ← List.drop_drop, List.take_add]
theorem takeV_back {k : Int} {xs r : List UInt8} {x : Vl} (h : takeV k xs = some (x, r)) : x.k = k ∧ validL x = true ∧ valB x ++ r = xs := by
  unfold takeV at h
  split at h
  · rename_i hk; subst hk
    split at h
    · rename_i hn; cases h
      refine ⟨rfl, by simp [validL, validB, noText, zeroH, eqH], ?_⟩
      rw [valB_1 rfl]
      have hl : (xs.take 8).length = 8 := by simp; omega
      have := bigB_numB (xs := xs.take 8) (by omega)
      rw [hl] at this
      rw [this]; exact List.take_append_drop 8 xs
    · cases h
  · split at h
    · rename_i hk; subst hk
      split at h
      · cases h
      · split at h
        · rename_i c q hn; cases h
          have hsz : (ByteArray.mk (q.take c.toNat).toArray).size = c.toNat := by show (q.take c.toNat).toArray.size = _; simp; omega
          refine ⟨rfl, ?_, ?_⟩
          · have : (ByteArray.mk (q.take c.toNat).toArray).size ≤ 64 := by omega
            simp [validL, validB, zeroH, eqH, this]
          · rw [valB_2 rfl]
            show bigB ((ByteArray.mk (q.take c.toNat).toArray).size : Int) 1 ++ (q.take c.toNat) ++ q.drop c.toNat = c :: q
            rw [hsz, bigB_one, List.append_assoc, List.take_append_drop]; rfl
        · cases h
    · split at h
      · rename_i hk; subst hk
        split at h
        · cases h
        · split at h
          · rename_i c q hn; cases h
            refine ⟨rfl, ?_, ?_⟩
            · have : (c.toNat : Int) = 0 ∨ (c.toNat : Int) = 1 := by omega
              rcases this with e | e <;> simp [validL, validB, noText, zeroH, eqH, e]
            · rw [valB_3 rfl]
              show bigB (c.toNat : Int) 1 ++ _ = c :: _
              rw [bigB_one]; rfl
          · cases h
      · split at h
        · rename_i hk; subst hk
          split at h
          · rename_i hn; cases h
            refine ⟨rfl, by simp [validL, validB, noText], ?_⟩
            rw [valB_4 (show ¬ (4 : Int) = 1 by decide) (show ¬ (4 : Int) = 2 by decide) (show ¬ (4 : Int) = 3 by decide)]
            have := his_back xs 8 0 (by omega)
            rw [Nat.mul_zero, List.drop_zero] at this
            show hisB ((List.range' 0 8).map (bkt xs)) ++ xs.drop 64 = xs
            rw [this]; exact List.take_append_drop 64 xs
          · cases h
        · cases h
theorem takeV_rng {k : Int} {xs r : List UInt8} {x : Vl} (h : takeV k xs = some (x, r)) : Rng x := by
  have z : Rg 0 := by unfold Rg; omega
  unfold takeV at h
  split at h
  · split at h
    · cases h; exact ⟨numB_ok _, z, z, z, z, z, z, z, z⟩
    · cases h
  · split at h
    · split at h
      · cases h
      · split at h
        · cases h; exact ⟨z, z, z, z, z, z, z, z, z⟩
        · cases h
    · split at h
      · split at h
        · cases h
        · split at h
          · rename_i c q hn; cases h; exact ⟨by unfold Rg; show _ ≤ (c.toNat : Int) ∧ (c.toNat : Int) ≤ _; omega, z, z, z, z, z, z, z, z⟩
          · cases h
      · split at h
        · split at h
          · cases h; exact ⟨z, numB_ok _, numB_ok _, numB_ok _, numB_ok _, numB_ok _, numB_ok _, numB_ok _, numB_ok _⟩
          · cases h
        · cases h
end Go.Proofs.YtlbjbkhcnafhcaaGreat.SN
namespace Go.Proofs.YtlbjbkhcnafhcaaGreat.SN
open Go.RowKit Go.Sort

structure Sm where
  nm : ByteArray
  ks : Rw
def eqSt (x y : Sm) : Bool := decide (x.nm = y.nm ∧ x.ks = y.ks)
theorem eqSt_iff (x y : Sm) : eqSt x y = true ↔ x = y := by
  cases x; cases y; simp [eqSt]
instance : DecidableEq Sm := fun x y => decidable_of_iff _ (eqSt_iff x y)
instance : Inhabited Sm := ⟨⟨⟨#[]⟩, []⟩⟩
def okK (ks : Rw) : Bool := ks.all validL
def keyB (x : Vl) : List UInt8 := dig x.k 0 :: valB x
def keysB (ks : Rw) : List UInt8 := ks.flatMap keyB
def txtL (s : Sm) : List UInt8 := keysB s.ks ++ (0 :: s.nm.data.toList)
def txt (s : Sm) : ByteArray := ⟨(txtL s).toArray⟩
theorem keysB_cons (x : Vl) (r : Rw) : keysB (x :: r) = keyB x ++ keysB r := rfl
theorem keysB_snoc (r : Rw) (x : Vl) : keysB (r ++ [x]) = keysB r ++ keyB x := by
  unfold keysB; rw [List.flatMap_append]; simp
theorem valid_k {x : Vl} (h : validL x = true) : 1 ≤ x.k ∧ x.k ≤ 4 := by
  rcases valid_kind h with ⟨hk, _⟩ | ⟨hk, _⟩ | ⟨hk, _⟩ | ⟨hk, _⟩ <;> omega
theorem dig_k {x : Vl} (h : validL x = true) : ((dig x.k 0).toNat : Int) = x.k := by
  have := valid_k h
  exact dig_one (by omega) (by omega)
theorem data_inj {s t : ByteArray} (h : s.data.toList = t.data.toList) : s = t := by
  obtain ⟨⟨x⟩⟩ := s
  obtain ⟨⟨y⟩⟩ := t
  simp at h
  subst h; rfl
def Gd (s : Sm) : Prop := okK s.ks = true ∧ ∀ x ∈ s.ks, Rng x
theorem txtL_aux {n n' : ByteArray} : ∀ {a b : Rw}, okK a = true → (∀ x ∈ a, Rng x) → okK b = true → (∀ x ∈ b, Rng x) → keysB a ++ (0 :: n.data.toList) = keysB b ++ (0 :: n'.data.toList) → a = b ∧ n = n'
  | [], [], _, _, _, _, h => by
    simp [keysB] at h
    exact ⟨rfl, data_inj (by rw [h])⟩
  | [], y :: r, _, _, hb, _, h => by
    exfalso
    simp only [okK, List.all_cons, Bool.and_eq_true] at hb
    have hk := dig_k hb.1
    have := valid_k hb.1
    rw [keysB_cons] at h
    simp only [keysB, keyB, List.flatMap_nil, List.nil_append, List.cons_append, List.cons.injEq] at h
    rw [← h.1] at hk
    simp at hk
    omega
  | x :: r, [], ha, _, _, _, h => by
    exfalso
    simp only [okK, List.all_cons, Bool.and_eq_true] at ha
    have hk := dig_k ha.1
    have := valid_k ha.1
    rw [keysB_cons] at h
    simp only [keysB, keyB, List.flatMap_nil, List.nil_append, List.cons_append, List.cons.injEq] at h
    rw [h.1] at hk
    simp at hk
    omega
  | x :: r, y :: q, ha, ra, hb, rb, h => by
    simp only [okK, List.all_cons, Bool.and_eq_true] at ha hb
    have hkx := dig_k ha.1
    have hky := dig_k hb.1
    rw [keysB_cons, keysB_cons] at h
    simp only [keyB, List.cons_append, List.append_assoc, List.cons.injEq] at h
    have hk : x.k = y.k := by rw [← hkx, ← hky, h.1]
    have t1 := takeV_valB (r := keysB r ++ (0 :: n.data.toList)) ha.1 (ra x (List.mem_cons_self ..))
    have t2 := takeV_valB (r := keysB q ++ (0 :: n'.data.toList)) hb.1 (rb y (List.mem_cons_self ..))
    rw [h.2, hk, t2] at t1
    simp only [Option.some.injEq, Prod.mk.injEq] at t1
    obtain ⟨e1, e2⟩ := t1
    obtain ⟨e3, e4⟩ := txtL_aux (a := r) (b := q) ha.2 (fun z hz => ra z (List.mem_cons_of_mem _ hz)) hb.2 (fun z hz => rb z (List.mem_cons_of_mem _ hz)) e2.symm
    exact ⟨by rw [e1, e3], e4⟩
theorem txt_inj {s t : Sm} (hs : Gd s) (ht : Gd t) (h : txt s = txt t) : s = t := by
  have h1 : txtL s = txtL t := by
    have := congrArg (fun b => b.data.toList) h
    simpa [txt] using this
  obtain ⟨e1, e2⟩ := txtL_aux hs.1 hs.2 ht.1 ht.2 h1
  cases s; cases t; simp_all
theorem vld_len {x : Vl} (h : validL x = true) : x.s.size ≤ 64 := by
  unfold validL validB at h
  split at h
  · simp only [Bool.and_eq_true, decide_eq_true_eq] at h; rw [h.1]; decide
  · split at h
    · simp only [Bool.and_eq_true, decide_eq_true_eq] at h; exact h.2.2
    · split at h
      · simp only [Bool.and_eq_true, decide_eq_true_eq] at h; rw [h.2.1]; decide
      · split at h
        · simp only [Bool.and_eq_true, decide_eq_true_eq] at h; rw [h.2]; decide
        · cases h
theorem vlB_len {x : Vl} (h : validL x = true) : (valB x).length ≤ 65 := by
  rcases valid_kind h with ⟨hk, _⟩ | ⟨hk, _, _, hs⟩ | ⟨hk, _⟩ | ⟨hk, _⟩
  · rw [valB_1 hk, bigB_len]; omega
  · rw [valB_2 hk, txtB_len]; omega
  · rw [valB_3 hk, bigB_len]; omega
  · rw [valB_4 (by omega) (by omega) (by omega), hisB_len]; simp
theorem keysB_len : ∀ {r : Rw}, okK r = true → (keysB r).length ≤ 66 * List.length r
  | [], _ => by simp [keysB]
  | x :: r, h => by
    simp only [okK, List.all_cons, Bool.and_eq_true] at h
    have h1 := vlB_len h.1
    have h2 := keysB_len (r := r) h.2
    rw [keysB_cons, List.length_append]
    simp only [keyB, List.length_cons]
    omega
/- What a dictionary answers. -/
def posS (s : Sm) : List Sm → Nat
  | [] => 0
  | y :: r => if y = s then 0 else posS s r + 1
theorem posS_lt {s : Sm} : ∀ {l : List Sm}, s ∈ l → posS s l < l.length
  | y :: r, h => by
    unfold posS
    by_cases e : y = s
    · rw [if_pos e]; simp
    · rw [if_neg e]
      have h' : s ∈ r := by
        rcases List.mem_cons.1 h with rfl | h
        · exact absurd rfl e
        · exact h
      have := posS_lt h'
      simp; omega
theorem posS_get {s : Sm} : ∀ {l : List Sm}, s ∈ l → l[posS s l]? = some s
  | y :: r, h => by
    unfold posS
    by_cases e : y = s
    · rw [if_pos e, e]; rfl
    · rw [if_neg e]
      have h' : s ∈ r := by
        rcases List.mem_cons.1 h with rfl | h
        · exact absurd rfl e
        · exact h
      simpa using posS_get h'
theorem posS_app {s t : Sm} : ∀ {l : List Sm}, s ∈ l → posS s (l ++ [t]) = posS s l
  | y :: r, h => by
    rw [List.cons_append]
    unfold posS
    by_cases e : y = s
    · rw [if_pos e, if_pos e]
    · rw [if_neg e, if_neg e]
      have h' : s ∈ r := by
        rcases List.mem_cons.1 h with rfl | h
        · exact absurd rfl e
        · exact h
      rw [posS_app h']
theorem posS_new {s : Sm} : ∀ {l : List Sm}, s ∉ l → posS s (l ++ [s]) = l.length
  | [], _ => by simp [posS]
  | y :: r, h => by
    rw [List.cons_append]
    unfold posS
    rw [if_neg (fun e => h (by rw [e]; exact List.mem_cons_self ..)), posS_new (fun e => h (List.mem_cons_of_mem _ e))]
    simp
theorem posS_at {l : List Sm} (hn : l.Nodup) {i : Nat} {s : Sm} (h : l[i]? = some s) : posS s l = i := by
  have hm : s ∈ l := List.mem_of_getElem? h
  have h2 := posS_get hm
  have hi := (List.getElem?_eq_some_iff.1 h).1
  have hj := posS_lt hm
  rw [List.getElem?_eq_getElem hi] at h
  rw [List.getElem?_eq_getElem hj] at h2
  exact (List.getElem_inj hn).1 (by simp at h h2; rw [h, h2])
def memS (l : List Sm) (s : Sm) : Bool := decide (s ∈ l)
def findI (l : List Sm) (s : Sm) : Int := if s ∈ l then (posS s l : Int) else 0
def fullB (most : Int) (l : List Sm) : Bool := decide (most ≤ (l.length : Int))
def addL (most : Int) (l : List Sm) (s : Sm) : List Sm := if okK s.ks && !memS l s && !fullB most l then l ++ [s] else l
def addI (most : Int) (l : List Sm) (s : Sm) : Int := if okK s.ks then (if s ∈ l then (posS s l : Int) else if fullB most l then 0 else (l.length : Int)) else 0
def addE (most : Int) (l : List Sm) (s : Sm) : Int := if okK s.ks then (if s ∈ l then 0 else if fullB most l then 80 else 0) else 10
/- What a dictionary holds: no stream twice, all of them good. -/
structure Dc (l : List Sm) : Prop where
  nd : l.Nodup
  gd : ∀ s ∈ l, Gd s
theorem Dc.nil : Dc [] := ⟨List.nodup_nil, fun _ h => by cases h⟩
theorem Dc.add {most : Int} {l : List Sm} {s : Sm} (h : Dc l) (hr : ∀ x ∈ s.ks, Rng x) : Dc (addL most l s) := by
  unfold addL
  split
  · rename_i hc
    simp only [Bool.and_eq_true, Bool.not_eq_true', memS, decide_eq_false_iff_not] at hc
    refine ⟨?_, fun t ht => ?_⟩
    · rw [List.nodup_append]
      exact ⟨h.nd, by simp, fun a ha b hb => by simp at hb; subst hb; exact fun e => hc.1.2 (e ▸ ha)⟩
    · rcases List.mem_append.1 ht with ht | ht
      · exact h.gd t ht
      · simp at ht; subst ht; exact ⟨hc.1.1, hr⟩
  · exact h
theorem memS_bad {l : List Sm} {s : Sm} (h : Dc l) (hb : okK s.ks = false) : memS l s = false := by
  unfold memS
  rw [decide_eq_false_iff_not]
  intro hm
  have := (h.gd s hm).1
  rw [hb] at this
  cases this
theorem findI_bad {l : List Sm} {s : Sm} (h : Dc l) (hb : okK s.ks = false) : findI l s = 0 := by
  have := memS_bad h hb
  unfold memS at this
  rw [decide_eq_false_iff_not] at this
  exact if_neg this
def ofL (nm : ByteArray) : Nat → List Sm → List Int
  | _, [] => []
  | i, y :: r => if y.nm = nm then (i : Int) :: ofL nm (i + 1) r else ofL nm (i + 1) r
theorem ofL_snoc (nm : ByteArray) : ∀ (i : Nat) (l : List Sm) (y : Sm), ofL nm i (l ++ [y]) = ofL nm i l ++ (if y.nm = nm then [((i + l.length : Nat) : Int)] else [])
  | i, [], y => by simp [ofL]
  | i, z :: r, y => by
    rw [List.cons_append]
    unfold ofL
    rw [ofL_snoc nm (i + 1) r y]
    have e : i + 1 + r.length = i + (z :: r).length := by simp; omega
    rw [e]
    split <;> simp
theorem ofL_len (nm : ByteArray) : ∀ (i : Nat) (l : List Sm), (ofL nm i l).length ≤ l.length
  | _, [] => by simp [ofL]
  | i, y :: r => by
    have := ofL_len nm (i + 1) r
    unfold ofL
    split <;> simp <;> omega
end Go.Proofs.YtlbjbkhcnafhcaaGreat.SN
namespace Go.Proofs.YtlbjbkhcnafhcaaGreat.RN
open Go.RowKit

structure Sp where
  t : Int
  vs : Rw
instance : DecidableEq Sp := fun x y => decidable_of_iff (x.t = y.t ∧ x.vs = y.vs) (by cases x; cases y; simp)
instance : Inhabited Sp := ⟨⟨0, []⟩⟩
/- How many of the first ones stand ahead of a moment. -/
def posT (t : Int) : List Sp → Nat
  | [] => 0
  | x :: r => if x.t < t then posT t r + 1 else 0
def hasT (l : List Sp) (t : Int) : Bool := l.any (fun s => decide (s.t = t))
def getT : List Sp → Int → Rw
  | [], _ => []
  | x :: r, t => if x.t = t then x.vs else getT r t
def Up (l : List Sp) : Prop := l.Pairwise (fun a b => a.t < b.t)
def insS (l : List Sp) (s : Sp) : List Sp := l.take (posT s.t l) ++ s :: l.drop (posT s.t l)
def addS (l : List Sp) (s : Sp) : List Sp := if hasT l s.t then l else insS l s
def inR (a b : Int) (s : Sp) : Bool := decide (a ≤ s.t ∧ s.t ≤ b)
def rngS (l : List Sp) (a b : Int) : List Sp := l.filter (inR a b)
theorem posT_le (t : Int) : ∀ l, posT t l ≤ l.length
  | [] => Nat.le_refl _
  | x :: r => by have := posT_le t r; unfold posT; split <;> simp; omega
theorem posT_lt {t : Int} : ∀ {l : List Sp} {j : Nat} {s : Sp}, j < posT t l → l[j]? = some s → s.t < t
  | [], _, _, h, _ => by simp [posT] at h
  | x :: r, j, s, h, hs => by
    unfold posT at h
    split at h
    · rename_i hx
      cases j with
      | zero => simp at hs; rw [← hs]; exact hx
      | succ j => exact posT_lt (l := r) (j := j) (by omega) (by simpa using hs)
    · omega
theorem posT_at {t : Int} : ∀ {l : List Sp} {s : Sp}, l[posT t l]? = some s → t ≤ s.t
  | [], _, h => by simp at h
  | x :: r, s, h => by
    unfold posT at h
    split at h
    · exact posT_at (l := r) (by simpa using h)
    · rename_i hx
      simp at h; rw [← h]; omega
theorem up_lt {l : List Sp} (hu : Up l) {i j : Nat} {x y : Sp} (hij : i < j) (hx : l[i]? = some x) (hy : l[j]? = some y) : x.t < y.t := by
  obtain ⟨hi, rfl⟩ := List.getElem?_eq_some_iff.1 hx
  obtain ⟨hj, rfl⟩ := List.getElem?_eq_some_iff.1 hy
  exact List.pairwise_iff_getElem.1 hu i j hi hj hij
theorem posT_ge {t : Int} {l : List Sp} (hu : Up l) {j : Nat} {s : Sp} (h : posT t l ≤ j) (hs : l[j]? = some s) : t ≤ s.t := by
  have hj := (List.getElem?_eq_some_iff.1 hs).1
  have hp : posT t l < l.length := by omega
  have h1 := posT_at (t := t) (List.getElem?_eq_getElem hp)
  by_cases e : posT t l = j
  · subst e; rw [List.getElem?_eq_getElem hp] at hs; cases hs; exact h1
  · have := up_lt hu (show posT t l < j by omega) (List.getElem?_eq_getElem hp) hs; omega
theorem posT_of {t : Int} : ∀ {l : List Sp} {k : Nat}, k ≤ l.length → (∀ j s, j < k → l[j]? = some s → s.t < t) → (∀ s, l[k]? = some s → t ≤ s.t) → posT t l = k
  | [], k, h, _, _ => by simp at h; simp [posT, h]
  | x :: r, 0, _, _, h2 => by
    have := h2 x (by simp)
    unfold posT; rw [if_neg (by omega)]
  | x :: r, k + 1, h, h1, h2 => by
    have hx := h1 0 x (by omega) (by simp)
    unfold posT
    rw [if_pos hx, posT_of (l := r) (k := k) (by simpa using h) (fun j s hj hs => h1 (j + 1) s (by omega) (by simpa using hs)) (fun s hs => h2 s (by simpa using hs))]
theorem hasT_iff {l : List Sp} {t : Int} : hasT l t = true ↔ ∃ s ∈ l, s.t = t := by simp [hasT]
theorem hasT_of {l : List Sp} {t : Int} {k : Nat} {s : Sp} (h : l[k]? = some s) (e : s.t = t) : hasT l t = true := hasT_iff.2 ⟨s, List.mem_of_getElem? h, e⟩
theorem hasT_no {l : List Sp} {t : Int} (h : hasT l t = false) {s : Sp} (hs : s ∈ l) : s.t ≠ t := fun e => by rw [hasT_iff.2 ⟨s, hs, e⟩] at h; cases h
theorem getT_cons_ne {x : Sp} {r : List Sp} {t : Int} (h : x.t ≠ t) : getT (x :: r) t = getT r t := by unfold getT; rw [if_neg h]; cases r <;> rfl
theorem getT_first {t : Int} : ∀ {l : List Sp} {k : Nat} {s : Sp}, (∀ j x, j < k → l[j]? = some x → x.t ≠ t) → l[k]? = some s → s.t = t → getT l t = s.vs
  | [], _, _, _, h, _ => by simp at h
  | x :: r, 0, s, _, h, e => by simp at h; subst h; unfold getT; rw [if_pos e]
  | x :: r, k + 1, s, h1, h, e => by
    rw [getT_cons_ne (h1 0 x (by omega) (by simp))]
    exact getT_first (l := r) (k := k) (fun j y hj hy => h1 (j + 1) y (by omega) (by simpa using hy)) (by simpa using h) e
theorem getT_no {t : Int} : ∀ {l : List Sp}, hasT l t = false → getT l t = []
  | [], _ => rfl
  | x :: r, h => by
    rw [getT_cons_ne (hasT_no h (by simp))]
    exact getT_no (l := r) (by simp [hasT] at h ⊢; exact h.2)
theorem hasT_pos {l : List Sp} (hu : Up l) {t : Int} (h : hasT l t = true) : ∃ s, l[posT t l]? = some s ∧ s.t = t ∧ getT l t = s.vs := by
  obtain ⟨s, hs, e⟩ := hasT_iff.1 h
  obtain ⟨k, hk, rfl⟩ := List.getElem_of_mem hs
  have hk' := List.getElem?_eq_getElem hk
  have hp : posT t l = k := posT_of (by omega) (fun j x hj hx => by have := up_lt hu hj hx hk'; omega) (fun x hx => by rw [hk'] at hx; cases hx; omega)
  rw [hp]
  exact ⟨_, hk', e, getT_first (fun j x hj hx => by have := up_lt hu hj hx hk'; omega) hk' e⟩
theorem hasT_nopos {l : List Sp} {t : Int} (h : hasT l t = false) {s : Sp} (hs : l[posT t l]? = some s) : t < s.t := by
  have h1 := posT_at hs
  have h2 := hasT_no h (List.mem_of_getElem? hs)
  omega
theorem hasT_none {l : List Sp} (hu : Up l) {t : Int} (h : ∀ s, l[posT t l]? = some s → s.t ≠ t) : hasT l t = false := by
  cases e : hasT l t with
  | false => rfl
  | true => obtain ⟨s, h1, h2, _⟩ := hasT_pos hu e; exact absurd h2 (h s h1)
theorem hasT_before {l : List Sp} {t : Int} (h : ∀ j s, j < l.length → l[j]? = some s → s.t ≠ t) : hasT l t = false := by
  cases e : hasT l t with
  | false => rfl
  | true =>
    obtain ⟨s, hs, e⟩ := hasT_iff.1 e
    obtain ⟨k, hk, rfl⟩ := List.getElem_of_mem hs
    exact absurd e (h k _ hk (List.getElem?_eq_getElem hk))
theorem insS_len (l : List Sp) (s : Sp) : (insS l s).length = l.length + 1 := by
  have := posT_le s.t l
  simp [insS]; omega
theorem insS_perm (l : List Sp) (s : Sp) : (insS l s).Perm (s :: l) := by
  unfold insS
  refine List.perm_middle.trans ?_
  rw [List.take_append_drop]
theorem addS_len (l : List Sp) (s : Sp) : (addS l s).length ≤ l.length + 1 := by
  unfold addS; split
  · omega
  · rw [insS_len]; exact Nat.le_refl _
theorem addS_new {l : List Sp} {s : Sp} (h : hasT l s.t = false) : addS l s = insS l s := by unfold addS; rw [h]; rfl
theorem addS_old {l : List Sp} {s : Sp} (h : hasT l s.t = true) : addS l s = l := by unfold addS; rw [h]; rfl
theorem insS_up {l : List Sp} {s : Sp} (hu : Up l) (h : hasT l s.t = false) : Up (insS l s) := by
  unfold insS Up
  rw [List.pairwise_append]
  refine ⟨hu.sublist (List.take_sublist _ _), ?_, ?_⟩
  · rw [List.pairwise_cons]
    refine ⟨fun x hx => ?_, hu.sublist (List.drop_sublist _ _)⟩
    obtain ⟨k, hk, rfl⟩ := List.getElem_of_mem hx
    have h1 := List.getElem?_eq_getElem hk
    rw [List.getElem?_drop] at h1
    have h2 := posT_ge hu (Nat.le_add_right _ _) h1
    have h3 := hasT_no h (List.mem_of_getElem? h1)
    omega
  · intro x hx y hy
    obtain ⟨k, hk, rfl⟩ := List.getElem_of_mem hx
    have hk2 : k < posT s.t l := by rw [List.length_take] at hk; omega
    have h1 := List.getElem?_eq_getElem hk
    rw [List.getElem?_take_of_lt hk2] at h1
    have h2 := posT_lt hk2 h1
    rcases List.mem_cons.1 hy with rfl | hy
    · exact h2
    · obtain ⟨i, hi, rfl⟩ := List.getElem_of_mem hy
      have h3 := List.getElem?_eq_getElem hi
      rw [List.getElem?_drop] at h3
      have h4 := posT_ge hu (Nat.le_add_right _ _) h3
      omega
theorem addS_up {l : List Sp} {s : Sp} (hu : Up l) : Up (addS l s) := by
  unfold addS; split
  · exact hu
  · rename_i h
    exact insS_up hu (by simpa using h)
theorem addS_mem {l : List Sp} {s x : Sp} (h : x ∈ addS l s) : x = s ∨ x ∈ l := by
  unfold addS at h; split at h
  · exact .inr h
  · have := (insS_perm l s).mem_iff.1 h
    simpa using this
theorem addS_has {l : List Sp} {s : Sp} : hasT (addS l s) s.t = true := by
  cases h : hasT l s.t with
  | true => rw [addS_old h, h]
  | false => rw [addS_new h]; exact hasT_iff.2 ⟨s, (insS_perm l s).mem_iff.2 (by simp), rfl⟩
theorem up_nil : Up [] := List.Pairwise.nil
/- A time's samples. -/
theorem rng_step {l : List Sp} {k : Nat} {s : Sp} (a b : Int) (h : l[k]? = some s) : rngS (l.take (k + 1)) a b = rngS (l.take k) a b ++ (if inR a b s then [s] else []) := by
  unfold rngS
  rw [List.take_add_one, h, List.filter_append]
  simp [List.filter_cons]
theorem rng_pos (l : List Sp) (a b : Int) : rngS (l.take (posT a l)) a b = [] := by
  unfold rngS
  rw [List.filter_eq_nil_iff]
  intro x hx
  obtain ⟨k, hk, rfl⟩ := List.getElem_of_mem hx
  have hk2 : k < posT a l := by rw [List.length_take] at hk; omega
  have h1 := List.getElem?_eq_getElem hk
  rw [List.getElem?_take_of_lt hk2] at h1
  have h2 := posT_lt hk2 h1
  unfold inR
  simp only [decide_eq_true_eq]
  omega
theorem rng_stop {l : List Sp} (hu : Up l) {k : Nat} {s : Sp} {a b : Int} (h : l[k]? = some s) (hb : b < s.t) : rngS l a b = rngS (l.take k) a b := by
  have e : l = l.take k ++ l.drop k := (List.take_append_drop k l).symm
  have hn : (l.drop k).filter (inR a b) = [] := by
    rw [List.filter_eq_nil_iff]
    intro x hx
    obtain ⟨i, hi, rfl⟩ := List.getElem_of_mem hx
    have h3 := List.getElem?_eq_getElem hi
    rw [List.getElem?_drop] at h3
    have h4 : s.t ≤ ((l.drop k)[i]).t := by
      by_cases e : i = 0
      · subst e; rw [Nat.add_zero, h] at h3; injection h3 with h3; rw [← h3]; exact Int.le_refl _
      · exact Int.le_of_lt (up_lt hu (by omega) h h3)
    unfold inR
    simp only [decide_eq_true_eq]
    omega
  unfold rngS
  conv => lhs; rw [e]
  rw [List.filter_append, hn, List.append_nil]
theorem rng_all {l : List Sp} {a b : Int} (h : ∀ s ∈ l, a ≤ s.t ∧ s.t ≤ b) : rngS l a b = l := by
  unfold rngS
  rw [List.filter_eq_self]
  intro s hs
  simp [inR]; exact h s hs
theorem rng_len (l : List Sp) (a b : Int) : (rngS l a b).length ≤ l.length := List.length_filter_le _ _
theorem rng_up {l : List Sp} (hu : Up l) (a b : Int) : Up (rngS l a b) := hu.sublist List.filter_sublist
theorem rng_mem {l : List Sp} {a b : Int} {s : Sp} : s ∈ rngS l a b ↔ s ∈ l ∧ a ≤ s.t ∧ s.t ≤ b := by simp [rngS, inR]
theorem rng_none {l : List Sp} {a b : Int} (h : b < a) : rngS l a b = [] := by
  unfold rngS
  rw [List.filter_eq_nil_iff]
  intro x hx
  simp [inR]; omega
theorem rng_cut {l : List Sp} (hu : Up l) {a m b : Int} (h1 : a ≤ m) (h2 : m < b) : rngS l a b = rngS l a m ++ rngS l (m + 1) b := by
  induction l with
  | nil => rfl
  | cons x r ih =>
    have hr : Up r := (List.pairwise_cons.1 hu).2
    have hx := (List.pairwise_cons.1 hu).1
    have ih := ih hr
    unfold rngS at ih ⊢
    simp only [List.filter_cons]
    by_cases c1 : a ≤ x.t ∧ x.t ≤ m
    · have e1 : inR a b x = true := by simp [inR]; omega
      have e2 : inR a m x = true := by simp [inR]; omega
      have e3 : inR (m + 1) b x = false := by simp [inR]; omega
      rw [e1, e2, e3, if_pos rfl, if_pos rfl, if_neg (by decide), ih]; rfl
    · by_cases c2 : m < x.t
      · have hn : r.filter (inR a m) = [] := by
          rw [List.filter_eq_nil_iff]; intro y hy; have := hx y hy; simp [inR]; omega
        have e2 : inR a m x = false := by simp [inR]; omega
        have e3 : inR a b x = inR (m + 1) b x := by simp only [inR]; congr 1; apply propext; omega
        rw [ih, hn, e2, e3]; simp
      · have e1 : inR a b x = false := by simp [inR]; omega
        have e2 : inR a m x = false := by simp [inR]; omega
        have e3 : inR (m + 1) b x = false := by simp [inR]; omega
        rw [e1, e2, e3, if_neg (by decide), if_neg (by decide), if_neg (by decide), ih]
/- A run filled. -/
def runL (L : List Sp) : List Sp := L.foldl addS []
theorem runL_snoc (L : List Sp) (s : Sp) : runL (L ++ [s]) = addS (runL L) s := by unfold runL; rw [List.foldl_append]; rfl
theorem take_snoc {α : Type} {L : List α} {k : Nat} {s : α} (h : L[k]? = some s) : L.take (k + 1) = L.take k ++ [s] := by rw [List.take_add_one, h]; rfl
theorem runL_take {L : List Sp} {k : Nat} {s : Sp} (h : L[k]? = some s) : runL (L.take (k + 1)) = addS (runL (L.take k)) s := by rw [take_snoc h, runL_snoc]
theorem fold_len : ∀ (L acc : List Sp), (L.foldl addS acc).length ≤ acc.length + L.length
  | [], acc => by simp
  | s :: r, acc => by
    have h1 := fold_len r (addS acc s)
    have h2 := addS_len acc s
    simp only [List.foldl_cons, List.length_cons]; omega
theorem runL_len (L : List Sp) : (runL L).length ≤ L.length := by have := fold_len L []; simpa [runL] using this
theorem fold_up : ∀ (L acc : List Sp), Up acc → Up (L.foldl addS acc)
  | [], _, h => h
  | s :: r, acc, h => fold_up r (addS acc s) (addS_up h)
theorem runL_up (L : List Sp) : Up (runL L) := fold_up L [] up_nil
theorem fold_mem : ∀ (L acc : List Sp) (x : Sp), x ∈ L.foldl addS acc → x ∈ acc ∨ x ∈ L
  | [], _, _, h => .inl h
  | s :: r, acc, x, h => by
    rcases fold_mem r (addS acc s) x h with h | h
    · rcases addS_mem h with rfl | h
      · exact .inr (by simp)
      · exact .inl h
    · exact .inr (by simp [h])
theorem runL_mem {L : List Sp} {x : Sp} (h : x ∈ runL L) : x ∈ L := by
  rcases fold_mem L [] x h with h | h
  · cases h
  · exact h
theorem up_unique {l m : List Sp} (hl : Up l) (hm : Up m) (hp : l.Perm m) : l = m :=
  List.Perm.eq_of_pairwise (le := fun x y : Sp => x.t < y.t) (fun a b _ _ h1 h2 => by omega) hl hm hp
end Go.Proofs.YtlbjbkhcnafhcaaGreat.RN
namespace Go.Proofs.YtlbjbkhcnafhcaaGreat
open Go.RowKit Go.Sort

def letB (c : UInt8) : Bool := decide (97 ≤ c.toNat) && decide (c.toNat ≤ 122)
def nmB (c : UInt8) : Bool := letB c || (decide (48 ≤ c.toNat) && decide (c.toNat ≤ 57)) || decide (c.toNat = 95) || decide (c.toNat = 35)
def nameB (s : ByteArray) : Bool := decide (1 ≤ s.size ∧ s.size ≤ 24) && (letB (s.data.getD 0 0) && s.data.toList.all nmB)

set_option maxHeartbeats 400000 in
theorem isLetter_any {c : UInt8} {w : World} :
    Calls Tryz.prog 114 #[.int .u8 (c.toNat : Int)] w fun e w' => e = .returned (.bool (letB c)) ∧ w' = w := by
  generalize hr : letB c = r
  have HR := hid hr
  clear hr
  go_enter Tryz.func114, Tryz.ntmps114
  go_wp2
  all_goals
    go_ret
    refine ⟨ret_bool ?_, rfl⟩
    rw [← HR.out]
    unfold letB
    rw [Bool.eq_iff_iff]
    simp only [Bool.and_eq_true, decide_eq_true_eq, Bool.false_eq_true, false_iff]
    omega
theorem nmB_is {c : UInt8} {r : Bool} (h : (letB c || (decide (48 ≤ c.toNat) && decide (c.toNat ≤ 57)) || decide (c.toNat = 95) || decide (c.toNat = 35)) = r) : nmB c = r := h
set_option maxHeartbeats 400000 in
theorem isNameByte_any {c : UInt8} {w : World} :
    Calls Tryz.prog 115 #[.int .u8 (c.toNat : Int)] w fun e w' => e = .returned (.bool (nmB c)) ∧ w' = w := by
  generalize hr : nmB c = r
  have HR := hid hr
  clear hr
  go_enter Tryz.func115, Tryz.ntmps115
  go_wp2_with (go_at_call 114; refine isLetter_any.mono ?_; rintro e w' ⟨rfl, rfl⟩)
  all_goals
    go_ret
    refine ⟨ret_bool ?_, rfl⟩
    rw [← HR.out]
    unfold nmB
    rw [Bool.eq_iff_iff]
    simp only [Bool.or_eq_true, Bool.and_eq_true, decide_eq_true_eq, true_iff, beq_iff_eq]
    first | omega | (simp [*]; done) | (simp [*]; omega)
theorem all_upto {s : ByteArray} : s.data.toList.all nmB = true ↔ ∀ i (h : i < s.size), nmB s[i] = true := by
  rw [List.all_eq_true]
  constructor
  · intro h i hi
    exact h _ (Array.mem_toList_iff.2 (Array.getElem_mem (by exact hi)))
  · intro h c hc
    obtain ⟨i, hi, rfl⟩ := List.mem_iff_getElem.1 hc
    exact h i (by simpa using hi)
theorem nameB_first {s : ByteArray} (h : 0 < s.size) : s.data.getD 0 0 = s[0] := by
  have h' : 0 < s.data.size := h
  rw [← Array.getElem_eq_getD (h := h')]; rfl
theorem name_no {s : ByteArray} (h : ¬ (1 ≤ s.size ∧ s.size ≤ 24)) : nameB s = false := by simp [nameB, h]
theorem name_first {s : ByteArray} (h : 0 < s.size) (hl : letB s[0] = false) : nameB s = false := by simp [nameB, nameB_first h, hl]
theorem name_byte {s : ByteArray} {i : Nat} (h : i < s.size) (hl : nmB s[i] = false) : nameB s = false := by
  unfold nameB
  have : s.data.toList.all nmB = false := by
    rw [Bool.eq_false_iff]; intro hh; rw [all_upto] at hh; rw [hh i h] at hl; cases hl
  rw [this]; simp
theorem name_yes {s : ByteArray} (h : 1 ≤ s.size ∧ s.size ≤ 24) (hl : letB s[0] = true) (ha : ∀ i (h : i < s.size), nmB s[i] = true) : nameB s = true := by
  unfold nameB
  rw [nameB_first h.1, hl, all_upto.2 ha]; simp [h]
set_option maxHeartbeats 400000 in
theorem name_any {s : ByteArray} {w : World} (hs : s.size ≤ maxLen) :
    Calls Tryz.prog 94 #[.string s] w fun e w' => e = .returned (.bool (nameB s)) ∧ w' = w := by
  unfold maxLen at hs
  generalize hr : nameB s = r
  have HR := hid hr
  clear hr
  by_cases h1 : s.size < 1
  · have g1 : (s.size : Int) < 1 := by omega
    go_enter Tryz.func94, Tryz.ntmps94
    go_wp2
    go_ret
    exact ⟨ret_bool ((name_no (by omega)).symm.trans HR.out), rfl⟩
  · have g1 : ¬ (s.size : Int) < 1 := by omega
    by_cases h2 : 24 < s.size
    · have g2 : (24 : Int) < (s.size : Int) := by omega
      go_enter Tryz.func94, Tryz.ntmps94
      go_wp2
      go_ret
      exact ⟨ret_bool ((name_no (by omega)).symm.trans HR.out), rfl⟩
    · have g2 : ¬ (24 : Int) < (s.size : Int) := by omega
      have h0 : 0 < s.size := by omega
      cases hl : letB s[0] with
      | false =>
        go_enter Tryz.func94, Tryz.ntmps94
        go_wp2_with (go_at_call 114; refine isLetter_any.mono ?_; rintro e w' ⟨rfl, rfl⟩)
        go_ret
        exact ⟨ret_bool ((name_first (by omega) hl).symm.trans HR.out), rfl⟩
      | true =>
        go_enter Tryz.func94, Tryz.ntmps94
        go_wp2_with (go_at_call 114; refine isLetter_any.mono ?_; rintro e w' ⟨rfl, rfl⟩)
        go_loopw [20] (fun i wr => ∃ k : Nat, k ≤ s.size ∧ i = .int .i64 k ∧ wr = w' ∧ Hid (∀ i (h : i < s.size), i < k → nmB s[i] = true)) (fun i _ => s.size - (intOf i).toNat)
        case atStart => exact ⟨0, by omega, rfl, rfl, fun i _ h => absurd h (Nat.not_lt_zero _)⟩
        case round =>
          obtain ⟨k, hk, rfl, rfl, HA⟩ := hrel
          by_cases hlt : k < s.size
          · cases hb : nmB s[k] with
            | true =>
              go_wp2_with (go_at_call 115; refine isNameByte_any.mono ?_; rintro e w' ⟨rfl, rfl⟩)
              go_roundw
              case rel =>
                refine ⟨k + 1, by omega, by go_num, by trivial, fun i h hi => ?_⟩
                by_cases e : i = k
                · subst e; exact hb
                · exact HA.out i h (by omega)
              case measure => simp [intOf]; omega
            | false =>
              go_wp2_with (go_at_call 115; refine isNameByte_any.mono ?_; rintro e w' ⟨rfl, rfl⟩)
              go_ret
              exact ⟨ret_bool ((name_byte hlt hb).symm.trans HR.out), rfl⟩
          · have hks : k = s.size := by omega
            subst hks
            go_wp2
            go_ret
            exact ⟨ret_bool ((name_yes (by omega) hl (fun i h => HA.out i h h)).symm.trans HR.out), rfl⟩
set_option maxHeartbeats 400000 in
theorem rname_any {s : ByteArray} {w : World} (hs : s.size ≤ maxLen) :
    Calls Tryz.prog 92 #[.string s] w fun e w' => e = .returned (.bool (nameB s)) ∧ w' = w := by
  unfold maxLen at hs
  generalize hr : nameB s = r
  have HR := hid hr
  clear hr
  by_cases h1 : s.size < 1
  · have g1 : (s.size : Int) < 1 := by omega
    go_enter Tryz.func92, Tryz.ntmps92
    go_wp2
    go_ret
    exact ⟨ret_bool ((name_no (by omega)).symm.trans HR.out), rfl⟩
  · have g1 : ¬ (s.size : Int) < 1 := by omega
    by_cases h2 : 24 < s.size
    · have g2 : (24 : Int) < (s.size : Int) := by omega
      go_enter Tryz.func92, Tryz.ntmps92
      go_wp2
      go_ret
      exact ⟨ret_bool ((name_no (by omega)).symm.trans HR.out), rfl⟩
    · have g2 : ¬ (24 : Int) < (s.size : Int) := by omega
      have h0 : 0 < s.size := by omega
      cases hl : letB s[0] with
      | false =>
        have hl' := hl
        unfold letB at hl'
        have hlow : (s[0].toNat : Int) < 97 ∨ (¬ (s[0].toNat : Int) < 97 ∧ (122 : Int) < (s[0].toNat : Int)) := by simp at hl'; omega
        clear hl'
        have HL := hid hl
        clear hl
        rcases hlow with h3 | ⟨h3, h4⟩
        all_goals
          go_enter Tryz.func92, Tryz.ntmps92
          go_wp2
          go_ret
          exact ⟨ret_bool ((name_first (by omega) HL.out).symm.trans HR.out), rfl⟩
      | true =>
        have hl' := hl
        unfold letB at hl'
        have h3 : ¬ (s[0].toNat : Int) < 97 := by simp at hl'; omega
        have h4 : ¬ (122 : Int) < (s[0].toNat : Int) := by simp at hl'; omega
        clear hl'
        have HL := hid hl
        clear hl
        go_enter Tryz.func92, Tryz.ntmps92
        go_wp2
        go_loopw [3] (fun i wr => ∃ k : Nat, k ≤ s.size ∧ i = .int .i64 k ∧ wr = w ∧ Hid (∀ i (h : i < s.size), i < k → nmB s[i] = true)) (fun i _ => s.size - (intOf i).toNat)
        case atStart => exact ⟨0, by omega, rfl, rfl, fun i _ h => absurd h (Nat.not_lt_zero _)⟩
        case round =>
          obtain ⟨k, hk, rfl, rfl, HA⟩ := hrel
          by_cases hlt : k < s.size
          · cases hb : nmB s[k] with
            | true =>
              have hb' := hb
              unfold nmB letB at hb'
              simp only [Bool.or_eq_true, Bool.and_eq_true, decide_eq_true_eq] at hb'
              have HB := hid hb
              clear hb
              have hq : ((97 : Int) ≤ (s[k].toNat : Int) ∧ (s[k].toNat : Int) ≤ 122) ∨ ((s[k].toNat : Int) < 97 ∧ (48 : Int) ≤ (s[k].toNat : Int) ∧ (s[k].toNat : Int) ≤ 57) ∨ (s[k].toNat : Int) = 95 ∨ (s[k].toNat : Int) = 35 := by omega
              clear hb'
              rcases hq with ⟨q1, q2⟩ | ⟨q1, q2, q3⟩ | q1 | q1
              all_goals
                go_wp2
                go_roundw
                case rel =>
                  refine ⟨k + 1, by omega, by go_num, by trivial, fun i h hi => ?_⟩
                  by_cases e : i = k
                  · subst e; exact HB.out
                  · exact HA.out i h (by omega)
                case measure => simp [intOf]; omega
            | false =>
              have hb' := hb
              unfold nmB letB at hb'
              simp only [Bool.or_eq_false_iff, Bool.and_eq_false_iff, decide_eq_false_iff_not] at hb'
              have HB := hid hb
              clear hb
              have q5 : ((s[k].toNat : Int) == 95) = false := by rw [Bool.eq_false_iff]; intro e; have := beq_iff_eq.1 e; omega
              have q6 : ((s[k].toNat : Int) == 35) = false := by rw [Bool.eq_false_iff]; intro e; have := beq_iff_eq.1 e; omega
              have hq : (decide ((s[k].toNat : Int) ≤ 122) = false ∧ decide ((s[k].toNat : Int) ≤ 57) = false ∧ decide ((97 : Int) ≤ (s[k].toNat : Int)) = true ∧ decide ((48 : Int) ≤ (s[k].toNat : Int)) = true) ∨ (decide ((97 : Int) ≤ (s[k].toNat : Int)) = false ∧ decide ((48 : Int) ≤ (s[k].toNat : Int)) = true ∧ decide ((s[k].toNat : Int) ≤ 57) = false) ∨ (decide ((97 : Int) ≤ (s[k].toNat : Int)) = false ∧ decide ((48 : Int) ≤ (s[k].toNat : Int)) = false) := by simp only [decide_eq_false_iff_not, decide_eq_true_eq]; omega
              clear hb'
              rcases hq with ⟨q1, q2, q3, q4⟩ | ⟨q1, q2, q3⟩ | ⟨q1, q2⟩
              all_goals
                go_wp2
                go_ret
                exact ⟨ret_bool ((name_byte hlt HB.out).symm.trans HR.out), rfl⟩
          · have hks : k = s.size := by omega
            subst hks
            go_wp2
            go_ret
            exact ⟨ret_bool ((name_yes (by omega) HL.out (fun i h => HA.out i h h)).symm.trans HR.out), rfl⟩
end Go.Proofs.YtlbjbkhcnafhcaaGreat
