/-
  The reference's Decode, its plain steps: what is read so far is the beginning of what the bytes say.
-/
import Derived.Test.YtjfholofgohcjaaPY
import Derived.Test.YtjfholofgohcjaaQTMath
import Derived.Test.YtjfholofgohcjaaQWValWalk
namespace Go.Proofs.Ytjfholofgohcjaa
open Go.RowKit Go.Sort Go.Shelf

def mid (xs : List UInt8) : List UInt8 := (xs.drop 4).take (xs.length - 8)
theorem mid_len {xs : List UInt8} (h : 8 ≤ xs.length) : (mid xs).length = xs.length - 8 := by unfold mid; simp; omega
theorem dec_parts {xs : List UInt8} {cs : List Cl} {rs : List Rw} (h : decS xs = some (cs, rs)) : 9 ≤ xs.length ∧ numB (xs.take 4) = (xs.length : Int) - 8 ∧ tabP (mid xs) = some (cs, rs) := by
  have h0 := h
  unfold decS at h
  split at h
  · cases h
  · rename_i b hb
    obtain ⟨h1, h2⟩ := bodyS_back hb
    have hl := frame_len b
    rw [h1] at hl
    have ht := frame_take (b := b)
    rw [h1] at ht
    have hm : mid xs = b := by
      unfold mid
      rw [hl, Nat.add_sub_cancel, ← h1]
      unfold frame
      rw [drop4' (len4 _)]
      exact List.take_left
    refine ⟨?_, ?_, by rw [hm]; exact h⟩
    · cases b with
      | nil => simp [tabP] at h
      | cons c r => rw [hl, List.length_cons]; omega
    · rw [ht, numB_bigB (by decide) (by omega) (by show (b.length : Int) < 4294967296; omega), hl]; omega
/- Columns. -/
def R1 (xs X : List UInt8) (m k at_ : Nat) (dn : List Cl) : Prop := ∀ cs rs, decS xs = some (cs, rs) → ∃ ck r1, colsP (m - k) (X.drop at_) = some (ck, r1) ∧ dn ++ ck = cs ∧ colsB cs = true ∧ tailP cs r1 = some (cs, rs)
theorem R1.start {xs X r0 : List UInt8} {c0 : UInt8} (hX : mid xs = c0 :: r0) (e : X = c0 :: r0) : R1 xs X c0.toNat 0 1 [] := by
  intro cs rs h
  obtain ⟨-, -, ht⟩ := dec_parts h
  rw [hX] at ht
  unfold tabP at ht
  simp only at ht
  split at ht
  · cases ht
  · rename_i ds r1 hc
    split at ht
    · rename_i hcb
      have e2 : ds = cs := by
        unfold tailP at ht
        split at ht
        · cases ht
        · split at ht
          · split at ht
            · cases ht; rfl
            · cases ht
          · cases ht
      subst e2
      exact ⟨ds, r1, by rw [e]; exact hc, rfl, hcb, ht⟩
    · cases ht
theorem drop_cons {X : List UInt8} {a : Nat} {x : UInt8} (h : X[a]? = some x) : X.drop a = x :: X.drop (a + 1) := by
  obtain ⟨hl, he⟩ := List.getElem?_eq_some_iff.1 h
  rw [List.drop_eq_getElem_cons hl, he]
theorem colP_at {X : List UInt8} {a : Nat} {x y : UInt8} (h1 : X[a]? = some x) (h2 : X[a + 1 + x.toNat]? = some y) : colP (X.drop a) = some (mkCol (X.drop (a + 1)) x y, X.drop (a + x.toNat + 2)) := by
  have hl := (List.getElem?_eq_some_iff.1 h2).1
  rw [drop_cons h1]
  unfold colP
  simp only
  rw [if_pos (by simp; omega), List.drop_drop, drop_cons h2]
  simp only
  rw [show a + 1 + x.toNat + 1 = a + x.toNat + 2 by omega]
theorem R1.step {xs X : List UInt8} {m k a : Nat} {dn : List Cl} {x y : UInt8} (h : R1 xs X m k a dn) (hk : k < m) (h1 : X[a]? = some x) (h2 : X[a + 1 + x.toNat]? = some y) : R1 xs X m (k + 1) (a + x.toNat + 2) (dn ++ [mkCol (X.drop (a + 1)) x y]) := by
  intro cs rs hd
  obtain ⟨ck, r1, hc, he, hcb, ht⟩ := h cs rs hd
  rw [show m - k = (m - (k + 1)) + 1 by omega, colsP, colP_at h1 h2] at hc
  simp only at hc
  split at hc
  · cases hc
  · rename_i ds r' hh
    cases hc
    exact ⟨ds, r1, hh, by rw [List.append_assoc]; exact he, hcb, ht⟩
theorem R1.dead {xs X : List UInt8} {m k a : Nat} {dn : List Cl} (h : R1 xs X m k a dn) (hk : k < m) (hn : colP (X.drop a) = none) : decS xs = none := by
  cases hd : decS xs with
  | none => rfl
  | some z =>
    obtain ⟨cs, rs⟩ := z
    obtain ⟨ck, r1, hc, -⟩ := h cs rs hd
    rw [show m - k = (m - (k + 1)) + 1 by omega, colsP, hn] at hc
    cases hc
theorem colP_end {X : List UInt8} {a : Nat} (h : X.length ≤ a) : colP (X.drop a) = none := by rw [List.drop_eq_nil_of_le h]; rfl
theorem colP_short {X : List UInt8} {a : Nat} {x : UInt8} (h1 : X[a]? = some x) (h : X.length ≤ a + 1 + x.toNat) : colP (X.drop a) = none := by
  rw [drop_cons h1]
  unfold colP
  simp only
  split
  · rw [List.drop_drop, List.drop_eq_nil_of_le h]
  · rfl
/- Rows. -/
def R2 (xs X : List UInt8) (cs : List Cl) (m j a : Nat) (dn : List Rw) : Prop := ∀ cs' rs, decS xs = some (cs', rs) → cs' = cs ∧ ∃ rk, rowsP cs (m - j) (X.drop a) = some (rk, []) ∧ dn ++ rk = rs
theorem R1.dead2 {xs X : List UInt8} {m a : Nat} {dn : List Cl} (h : R1 xs X m m a dn) (hn : X.length < a + 2 ∨ colsB dn = false) : decS xs = none := by
  cases hd : decS xs with
  | none => rfl
  | some z =>
    obtain ⟨cs, rs⟩ := z
    obtain ⟨ck, r1, hc, he, hcb, ht⟩ := h cs rs hd
    rw [Nat.sub_self, colsP] at hc
    cases hc
    rw [List.append_nil] at he
    subst he
    rcases hn with hn | hn
    · unfold tailP at ht
      rw [if_pos (by simp; omega)] at ht
      cases ht
    · rw [hn] at hcb; cases hcb
theorem R1.rows {xs X : List UInt8} {m a : Nat} {dn : List Cl} (h : R1 xs X m m a dn) {n : Nat} (hn : numB ((X.drop a).take 2) = (n : Int)) : R2 xs X dn n 0 (a + 2) [] := by
  intro cs rs hd
  obtain ⟨ck, r1, hc, he, hcb, ht⟩ := h cs rs hd
  rw [Nat.sub_self, colsP] at hc
  cases hc
  rw [List.append_nil] at he
  subst he
  refine ⟨rfl, ?_⟩
  unfold tailP at ht
  split at ht
  · cases ht
  · split at ht
    · rw [hn, Int.toNat_natCast, List.drop_drop] at ht
      split at ht
      · rename_i rk hh
        cases ht
        exact ⟨rs, hh, rfl⟩
      · cases ht
    · cases ht
/- Values of one row. -/
def R3 (xs X : List UInt8) (cs : List Cl) (m j k a : Nat) (dn : List Rw) (dv : Rw) : Prop := ∀ cs' rs, decS xs = some (cs', rs) → cs' = cs ∧ ∃ qk r2 rk, rowP (cs.drop k) (X.drop a) = some (qk, r2) ∧ rowsP cs (m - (j + 1)) r2 = some (rk, []) ∧ dn ++ (dv ++ qk) :: rk = rs
theorem R2.row {xs X : List UInt8} {cs : List Cl} {m j a : Nat} {dn : List Rw} (h : R2 xs X cs m j a dn) (hj : j < m) : R3 xs X cs m j 0 a dn [] := by
  intro cs' rs hd
  obtain ⟨e, rk, hr, he⟩ := h cs' rs hd
  refine ⟨e, ?_⟩
  rw [show m - j = (m - (j + 1)) + 1 by omega, rowsP] at hr
  split at hr
  · cases hr
  · rename_i q r hq
    split at hr
    · cases hr
    · rename_i qs r' hqs
      cases hr
      exact ⟨q, r, qs, hq, hqs, he⟩
theorem R3.done {xs X : List UInt8} {cs : List Cl} {m j a : Nat} {dn : List Rw} {dv : Rw} (h : R3 xs X cs m j cs.length a dn dv) : R2 xs X cs m (j + 1) a (dn ++ [dv]) := by
  intro cs' rs hd
  obtain ⟨e, qk, r2, rk, h1, h2, h3⟩ := h cs' rs hd
  rw [List.drop_length, rowP] at h1
  cases h1
  have e0 : dv ++ [] = dv := List.append_nil (α := Vl) dv
  rw [e0] at h3
  exact ⟨e, rk, h2, by rw [List.append_assoc]; exact h3⟩
theorem takeV_kind {k : Int} {xs : List UInt8} (h : ¬ (1 ≤ k ∧ k ≤ 4)) : takeV k xs = none := by
  unfold takeV
  rw [if_neg (by omega), if_neg (by omega), if_neg (by omega), if_neg (by omega)]
theorem tkZ_none {k : Int} {xs : List UInt8} (h : ¬ tkZ k xs = 0) : takeV k xs = none := by
  by_cases hk : 1 ≤ k ∧ k ≤ 4
  · cases ht : takeV k xs with
    | none => rfl
    | some z => exact absurd (by simp [tkZ, hk, ht]) h
  · exact takeV_kind hk
theorem tkZ_some {k : Int} {xs : List UInt8} (h : tkZ k xs = 0) : takeV k xs = some (tkV k xs, tkL k xs) := by
  by_cases hk : 1 ≤ k ∧ k ≤ 4
  · cases ht : takeV k xs with
    | none => simp [tkZ, hk, ht] at h
    | some z => obtain ⟨x, r⟩ := z; simp [tkV, tkL, hk, ht]
  · simp [tkZ, hk] at h
theorem take66 {k : Int} {Z r : List UInt8} {x : Vl} (h : takeV k Z = some (x, r)) : ∃ r', takeV k (Z.take 66) = some (x, r') := by
  obtain ⟨e1, e2, e3⟩ := takeV_back h
  have hl := valB_len (valid_len e2)
  have e : Z.take 66 = valB x ++ r.take (66 - (valB x).length) := by
    rw [← e3, List.take_append, List.take_of_length_le (by omega)]
  rw [e, ← e1]
  exact ⟨_, takeV_valB e2 (takeV_rng h)⟩
theorem take66_back {k : Int} {Z r : List UInt8} {x : Vl} (h : takeV k (Z.take 66) = some (x, r)) : takeV k Z = some (x, Z.drop ((Z.take 66).length - r.length)) ∧ r.length ≤ (Z.take 66).length ∧ Rng x := by
  obtain ⟨e1, e2, e3⟩ := takeV_back h
  have hl := congrArg List.length e3
  rw [List.length_append] at hl
  have e : Z = valB x ++ (r ++ Z.drop 66) := by
    rw [← List.append_assoc, e3, List.take_append_drop]
  refine ⟨?_, by omega, takeV_rng h⟩
  have hd : Z.drop ((Z.take 66).length - r.length) = r ++ Z.drop 66 := by
    have : (Z.take 66).length - r.length = (valB x).length := by omega
    rw [this]
    conv => lhs; rw [e]
    exact List.drop_left
  rw [hd]
  conv => lhs; rw [e, ← e1]
  exact takeV_valB e2 (takeV_rng h)
theorem R3.dead {xs X : List UInt8} {cs : List Cl} {m j k a : Nat} {dn : List Rw} {dv : Rw} (h : R3 xs X cs m j k a dn dv) (hk : k < cs.length) (hz : ¬ tkZ cs[k]!.kd ((X.drop a).take 66) = 0) : decS xs = none := by
  cases hd : decS xs with
  | none => rfl
  | some z =>
    obtain ⟨cs', rs⟩ := z
    obtain ⟨-, qk, r2, rk, h1, -⟩ := h cs' rs hd
    have ec : cs.drop k = cs[k]! :: cs.drop (k + 1) := by
      rw [List.drop_eq_getElem_cons hk, List.getElem!_eq_getElem?_getD, List.getElem?_eq_getElem hk]; rfl
    rw [ec, rowP] at h1
    split at h1
    · cases h1
    · rename_i x r ht
      obtain ⟨r', h'⟩ := take66 ht
      rw [tkZ_none hz] at h'
      cases h'
theorem R3.step {xs X : List UInt8} {cs : List Cl} {m j k a : Nat} {dn : List Rw} {dv : Rw} (h : R3 xs X cs m j k a dn dv) (hk : k < cs.length) (hz : tkZ cs[k]!.kd ((X.drop a).take 66) = 0) : R3 xs X cs m j (k + 1) (a + (((X.drop a).take 66).length - (tkL cs[k]!.kd ((X.drop a).take 66)).length)) dn (dv ++ [tkV cs[k]!.kd ((X.drop a).take 66)]) := by
  intro cs' rs hd
  obtain ⟨e, qk, r2, rk, h1, h2, h3⟩ := h cs' rs hd
  have ec : cs.drop k = cs[k]! :: cs.drop (k + 1) := by
    rw [List.drop_eq_getElem_cons hk, List.getElem!_eq_getElem?_getD, List.getElem?_eq_getElem hk]; rfl
  have ht := (take66_back (tkZ_some hz)).1
  rw [ec, rowP, ht] at h1
  simp only at h1
  split at h1
  · cases h1
  · rename_i q r' hq
    cases h1
    rw [List.drop_drop] at hq
    refine ⟨e, q, r2, rk, hq, h2, ?_⟩
    rw [← h3]
    have : ∀ (a b : Rw) (c : Vl), (a ++ [c]) ++ b = a ++ c :: b := fun a b c => by rw [List.append_assoc]; rfl
    rw [this]
/- The end. -/
def reL (cs : List Cl) (rs : List Rw) : List UInt8 := if checkV cs rs = 0 ∧ rs.length ≤ 4096 then encB cs rs else []
def reZ (cs : List Cl) (rs : List Rw) : Int := if checkV cs rs = 0 then (if rs.length ≤ 4096 then 0 else 2) else checkV cs rs
theorem renc_all {v : Value} {cs : List Cl} {rs : List Rw} {w : World} (hT : TabAt w v cs rs) :
    Calls Try.prog 27 #[v] w fun e w' => ∃ p c, e = .returned (.tuple #[.slice p (reL cs rs).length c, .int .i64 (reZ cs rs)]) ∧ BAt w' (.slice p (reL cs rs).length c) (reL cs rs) ∧ Below w.heap.size w w' := by
  by_cases h : checkV cs rs = 0
  · by_cases hl : rs.length ≤ 4096
    · rw [show reL cs rs = encB cs rs from if_pos ⟨h, hl⟩, show reZ cs rs = 0 by simp [reZ, h, hl]]
      refine (renc_ok hT h hl).mono ?_
      rintro e w' ⟨v', rfl, ho, hb⟩
      obtain ⟨p, c, rfl⟩ := ho.form
      exact ⟨p, c, rfl, ho.bat, hb⟩
    · rw [show reL cs rs = [] from if_neg (fun h => hl h.2), show reZ cs rs = 2 by simp [reZ, h, hl]]
      refine (renc_long hT h (by omega)).mono ?_
      rintro e w' ⟨rfl, hb⟩
      exact ⟨none, 0, rfl, bat_nil _, hb⟩
  · rw [show reL cs rs = [] from if_neg (fun h' => h h'.1), show reZ cs rs = checkV cs rs by simp [reZ, h]]
    refine (renc_err hT h).mono ?_
    rintro e w' ⟨rfl, hb⟩
    exact ⟨none, 0, rfl, bat_nil _, hb⟩
theorem re_good {xs : List UInt8} {cs : List Cl} {rs : List Rw} (hz : reZ cs rs = 0) (hl : reL cs rs = xs) (hr : RngT rs) : decS xs = some (cs, rs) := by
  unfold reZ at hz
  split at hz
  · rename_i h
    split at hz
    · rename_i h2
      rw [show reL cs rs = encB cs rs from if_pos ⟨h, h2⟩] at hl
      rw [← hl]
      exact decS_encB h h2 hr
    · cases hz
  · contradiction
theorem re_bad {xs X : List UInt8} {cs : List Cl} {rs : List Rw} {m a : Nat} (h : R2 xs X cs m m a rs) (hz : ¬ (reZ cs rs = 0 ∧ reL cs rs = xs)) : decS xs = none := by
  cases hd : decS xs with
  | none => rfl
  | some z =>
    obtain ⟨cs', rs'⟩ := z
    obtain ⟨e, rk, hr, he⟩ := h cs' rs' hd
    rw [Nat.sub_self, rowsP] at hr
    simp only [Option.some.injEq, Prod.mk.injEq] at hr
    obtain ⟨rfl, -⟩ := hr
    rw [List.append_nil] at he
    subst e he
    obtain ⟨h1, h2, h3, h4⟩ := decS_back hd
    exact absurd ⟨by simp [reZ, h1, h2], (if_pos ⟨h1, h2⟩ : reL _ _ = _).trans h4⟩ hz
end Go.Proofs.Ytjfholofgohcjaa
