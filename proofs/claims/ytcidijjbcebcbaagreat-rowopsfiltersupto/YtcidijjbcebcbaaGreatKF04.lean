/-
  What the reference's one returns: a word, a text, a sign.
  What the reference's one returns: a sign, or nothing.
  A number's digits, counted from their first.
  What the reference's one returns: a number.
  What the reference's one returns: a number with a sign ahead.
  What the reference's Lex returns.
  The reference's reader: its error is a number that it keeps.
  The reference's reader: a word, a token, one more that is open.
  The reference's reader lays a node.
  The reference's reader takes a token of a kind.
  The reference's reader takes a value.
  The reference's reader takes names.
  The reference's reader: what and, what or joins.
  The reference's reader: not, with an error, and ahead of a not.
  The reference's reader: not, ahead of a not.
  The reference's reader: not, ahead of an opening bracket.
  A node in its box, while the reference's reader reads on.
  Print's isTree.
  The values' cells written out, what Go's comparison of two such values answers, and what OfInt, OfStr, OfBool and ofBuckets of package value return: for every input, with nothing older in memory turned.
-/
import Derived.Test.YtcidijjbcebcbaaGreatProg
import Derived.Test.YtcidijjbcebcbaaGreatKF03
import Derived.Deep.DeepCutAuto
import Derived.Deep.QuietTactic
import Derived.BigQuiet
import Derived.Deep.MidRow
import Derived.KernelRfl
import Derived.WalkKit
import Derived.WalkSpells
import Derived.WalkLawsBesides
import Derived.Deep.RegionWith
import Derived.ChangeKeysEq
namespace Go.Proofs.YtcidijjbcebcbaaGreat
open Go.RowKit Go.Joins
/-- A token, or none: then 0 stands beside whatever it is. -/
def OneP (x : Option (Tk × Nat)) (w : World) (e : Ending) (w' : World) : Prop :=
  (∃ (k : Int) (s : List UInt8) (n a m : Int), e = .returned (.tuple #[TV k s n a, .int .i64 m]) ∧ (x = none → m = 0) ∧ ∀ t q, x = some (t, q) → k = (t.kind : Int) ∧ s = t.s ∧ n = t.n ∧ a = (t.at_ : Int) ∧ m = (q : Int)) ∧ Below w.heap.size w w'
theorem text_rtx (l : List UInt8) : textS l = (rtx [] 1 l.tail).map (fun x => (⟨3, x.1, 0, 0⟩, x.2)) := by
  rw [show (1 : Nat) = 0 + 1 from rfl, rtx_eq l.tail.length l.tail [] 0 (Nat.le_refl _)]
  unfold textS
  cases txtF [] false 0 l.tail <;> rfl
theorem sign_45 {l : List UInt8} {r : List UInt8} (h : l = 45 :: r) : signS l = none := by
  subst h
  unfold signS
  rw [List.find?_eq_none.2 ?_]
  intro x hx
  simp only [signsL, List.mem_cons, List.not_mem_nil, or_false] at hx
  rcases hx with h | h | h | h | h | h | h | h | h | h | h <;> subst h <;> simp [List.isPrefixOf]
/-- What is neither word nor text nor number, as the reference asks. -/
def Other (l : List UInt8) : Prop := ∀ h : 0 < l.length, isLe l[0] = false ∧ ¬ l[0].toNat = 34 ∧ isDg l[0] = false ∧ (l[0].toNat = 45 → ∀ h2 : 1 < l.length, isDg l[1] = false)
theorem first_other {l : List UInt8} (h1 : 0 < l.length) (h : Other l) : firstS l = signS l := by
  obtain ⟨a1, a2, a3, a4⟩ := h h1
  by_cases h45 : l[0].toNat = 45
  · rw [firstS_n h1 a1 (.inl h45)]
    obtain ⟨c, r, rfl⟩ : ∃ c r, l = c :: r := by
      cases l with
      | nil => simp at h1
      | cons c r => exact ⟨c, r, rfl⟩
    have hc : c = 45 := UInt8.toNat_inj.1 h45
    subst hc
    rw [sign_45 rfl]
    apply numS_a
    show spanN isDg r = 0
    cases r with
    | nil => rfl
    | cons d r =>
      have := a4 rfl (by simp)
      have hd : isDg d = false := this
      simp [spanN, hd]
  · exact firstS_s h1 a1 h45 a3 a2
end Go.Proofs.YtcidijjbcebcbaaGreat
namespace Go.Proofs.YtcidijjbcebcbaaGreat
open Go.RowKit Go.Joins
theorem sgn_forms (l : List UInt8) : (signS l = none ∧ sgnOf l = []) ∨ signS l = some (⟨4, sgnOf l, 0, 0⟩, (sgnOf l).length) := by
  cases h : signS l with
  | none => exact .inl ⟨rfl, sgnOf_no h⟩
  | some x =>
    right
    have h0 := h
    unfold signS at h
    split at h
    · cases h; rw [sgnOf_yes h0]
    · cases h
end Go.Proofs.YtcidijjbcebcbaaGreat
namespace Go.Proofs.YtcidijjbcebcbaaGreat
open Go.RowKit Go.Joins
theorem ten19 (E : List UInt8) (c : UInt8) (t : List UInt8) (hE : E = c :: t) (hd : isDg c = true) (hc : ¬ c.toNat = 48) (hl : 19 < E.length) : 9223372036854775808 < dval E := by
  subst hE
  unfold dval
  rw [dvalF_cons]
  have h1 := dvalF_ge t (dstep 0 c)
  have h2 : 1 ≤ dstep 0 c := by unfold dstep; simp [isDg] at hd; omega
  have h3 : 10 ^ 19 ≤ 10 ^ t.length := Nat.pow_le_pow_right (by decide) (by simp at hl; omega)
  have h4 : 1 * 10 ^ t.length ≤ dstep 0 c * 10 ^ t.length := Nat.mul_le_mul_right _ h2
  have h5 : (10 : Nat) ^ 19 = 10000000000000000000 := by decide
  omega
/-- Whether the reference refuses digits. -/
def badN (l : List UInt8) (m : Nat) : Bool :=
  (decide ((digitsOf l).head? = some 48) && decide (1 < m + sgn1 l)) || decide (19 < m) || !(decide (spanN isWd (digitsOf l) = m))
theorem num_ref {l : List UInt8} {m : Nat} (hm : spanN isDg (digitsOf l) = m) (h0 : 0 < m) :
    numS l = if badN l m then none else (numV (neg1 l) (dval ((digitsOf l).take m))).map (fun v => (⟨2, [], v, 0⟩, m + sgn1 l)) := by
  unfold numS badN
  rw [hm]
  by_cases h1 : spanN isWd (digitsOf l) = m
  · rw [if_neg (by omega), h1]
    by_cases h2 : (digitsOf l).head? = some 48 ∧ 1 < m + sgn1 l
    · rw [if_pos h2]; simp [h2.1, h2.2]
    · rw [if_neg h2]
      by_cases h3 : 19 < m
      · have hb : numV (neg1 l) (dval ((digitsOf l).take m)) = none := by
          have hle := spanN_le isDg (digitsOf l)
          have ht := spanN_take isDg (digitsOf l)
          rw [hm] at hle ht
          generalize digitsOf l = D at *
          obtain ⟨c, t, rfl⟩ : ∃ c t, D = c :: t := by
            cases D with
            | nil => simp at hle; omega
            | cons c t => exact ⟨c, t, rfl⟩
          obtain ⟨m', rfl⟩ : ∃ m', m = m' + 1 := ⟨m - 1, by omega⟩
          refine numV_no _ _ (ten19 _ c (t.take m') rfl (ht c (by simp)) ?_ (by simp at hle ⊢; omega))
          intro h48
          apply h2
          have : c = 48 := UInt8.toNat_inj.1 h48
          subst this
          exact ⟨rfl, by omega⟩
        rw [hb]; simp [h3]
      · have h2' : (decide ((digitsOf l).head? = some 48) && decide (1 < m + sgn1 l)) = false := by
          apply Bool.eq_false_iff.2; intro h; simp at h; exact h2 h
        rw [h2']; simp [h3]
  · rw [if_pos (by right; omega)]; simp [h1]
theorem wd_stop (D : List UInt8) (m : Nat) (hle : m ≤ D.length) (hd : ∀ i (h : i < D.length), i < m → isDg D[i] = true) :
    decide (spanN isWd D = m) = !(decide (m < D.length) && isWd (D.getD m 0)) := by
  by_cases h : m < D.length
  · have hg : D.getD m 0 = D[m] := by rw [List.getD_eq_getElem?_getD, List.getElem?_eq_getElem h]; rfl
    rw [hg, decide_eq_true h]
    cases hx : isWd D[m] with
    | false =>
      rw [decide_eq_true (spanN_is isWd D m hle (fun i hi hm => isDg_isWd (hd i hi hm)) (.inr ⟨h, hx⟩))]; rfl
    | true =>
      have : ¬ spanN isWd D = m := fun e => by
        have := spanN_stop isWd D (by omega)
        simp only [e] at this
        rw [hx] at this; cases this
      simp [this]
  · rw [decide_eq_false h, decide_eq_true (spanN_is isWd D m hle (fun i hi hm => isDg_isWd (hd i hi hm)) (.inl (by omega)))]; rfl
end Go.Proofs.YtcidijjbcebcbaaGreat
namespace Go.Proofs.YtcidijjbcebcbaaGreat
open Go.RowKit Go.Joins
theorem getD_at {l : List UInt8} {k : Nat} (h : k < l.length) : l.getD k 0 = l[k] := by
  rw [List.getD_eq_getElem?_getD, List.getElem?_eq_getElem h]; rfl
end Go.Proofs.YtcidijjbcebcbaaGreat
namespace Go.Proofs.YtcidijjbcebcbaaGreat
open Go.RowKit Go.Joins
end Go.Proofs.YtcidijjbcebcbaaGreat
namespace Go.Proofs.YtcidijjbcebcbaaGreat
open Go.RowKit Go.Joins
theorem join_bl {l : List UInt8} {ts : List Tk} {k : Nat} (h : lexA 0 l = joinT ts (lexA k (l.drop k))) (hk : k < l.length) (hb : isBl l[k] = true) : lexA 0 l = joinT ts (lexA (k + 1) (l.drop (k + 1))) := by
  rw [drop_at hk] at h
  rw [h, lexA_bl k _ hb]
end Go.Proofs.YtcidijjbcebcbaaGreat
namespace Go.Proofs.YtcidijjbcebcbaaGreat
open Go.RowKit Go.Joins

theorem below_drewN {B : Nat} {a w : World} (h : Below B a w) (n : Nat) : Below B a (w.drewN n) := ⟨h.os, h.tape, h.output, h.size, h.block⟩
/- What a reading comes to, as the reader keeps it. -/
def Cm {α : Type} (r : Rs α) (x : α) (i : Nat) (E : Int) : Prop := (r = .bad i E ∧ ¬ E = 0) ∨ (r = .ok x i ∧ E = 0)
def lf {α : Type} (E : Int) (i : Nat) (r : Rs α) : Rs α := if E = 0 then r else .bad i E
theorem Cm.and {α β : Type} {r : Rs α} {f : α → Nat → Rs β} {x : α} {y : β} {i j : Nat} {E E' : Int} (h : Cm r x i E) (h2 : Cm (lf E i (f x i)) y j E') : Cm (r.and f) y j E' := by
  rcases h with ⟨h, hE⟩ | ⟨h, hE⟩
  · rw [h]; unfold lf at h2; rw [if_neg hE] at h2; exact h2
  · rw [h]; unfold lf at h2; rw [if_pos hE] at h2; exact h2
theorem Cm.lfand {α β : Type} {r : Rs α} {f : α → Nat → Rs β} {x : α} {y : β} {i0 i j : Nat} {E0 E E' : Int} (h : Cm (lf E0 i0 r) x i E) (h2 : Cm (lf E i (f x i)) y j E') : Cm (lf E0 i0 (r.and f)) y j E' := by
  unfold lf at h ⊢
  by_cases hE : E0 = 0
  · rw [if_pos hE] at h ⊢; exact h.and h2
  · rw [if_neg hE] at h ⊢
    rcases h with ⟨h, hE⟩ | ⟨h, hE⟩
    · cases h; unfold lf at h2; rw [if_neg hE] at h2; exact h2
    · cases h
theorem lf_bad {α : Type} {E : Int} {i : Nat} {r : Rs α} {x : α} (hE : ¬ E = 0) : Cm (lf E i r) x i E := .inl ⟨if_neg hE, hE⟩
section
variable {B : Nat} {ts : List Tp} {w w' : World} {rb : Nat} {tv sv : Value} {E : Int} {o i : Nat} {qs : List Nd}
end
end Go.Proofs.YtcidijjbcebcbaaGreat
namespace Go.Proofs.YtcidijjbcebcbaaGreat
open Go.RowKit Go.Joins

def isE (E : Int) (ts : List Tp) (i : Nat) (x : List UInt8) : Bool := decide (E = 0) && isW ts i x
theorem isE_lt {E : Int} {ts : List Tp} {i : Nat} {x : List UInt8} (h : isE E ts i x = true) : i < ts.length := by
  unfold isE at h; rw [Bool.and_eq_true] at h; exact isW_lt h.2
theorem isE_E {E : Int} {ts : List Tp} {i : Nat} {x : List UInt8} (h : isE E ts i x = true) : E = 0 := by
  unfold isE at h; rw [Bool.and_eq_true] at h; simpa using h.1
theorem isE_W {E : Int} {ts : List Tp} {i : Nat} {x : List UInt8} (h : isE E ts i x = true) : isW ts i x = true := by
  unfold isE at h; rw [Bool.and_eq_true] at h; exact h.2
section
variable {B : Nat} {ts : List Tp} {w w' : World} {rb : Nat} {tv sv : Value} {E : Int} {o i : Nat} {qs : List Nd}
def erS (E c : Int) : Int := if E = 0 then c else E
theorem erS_ne {E c : Int} (hc : ¬ c = 0) : ¬ erS E c = 0 := by unfold erS; split <;> assumption
theorem erS_lf {α : Type} {E : Int} {i : Nat} {x : α} : Cm (lf E i (.bad i 120 : Rs α)) x i (erS E 120) := by
  by_cases hE : E = 0
  · subst hE; exact .inl ⟨rfl, by decide⟩
  · have : erS E 120 = E := if_neg hE
    rw [this]; exact lf_bad hE
end
end Go.Proofs.YtcidijjbcebcbaaGreat
namespace Go.Proofs.YtcidijjbcebcbaaGreat
open Go.RowKit Go.Joins

section
variable {B : Nat} {ts : List Tp} {w w' : World} {rb : Nat} {tv sv : Value} {E : Int} {o i : Nat} {qs : List Nd}
def Cm2 (r : Rs (Nat × List Np)) (z : Int) (ns : List Np) (i : Nat) (E : Int) : Prop := (r = .bad i E ∧ ¬ E = 0) ∨ (∃ a : Nat, z = a ∧ r = .ok (a, ns) i ∧ E = 0)
end
end Go.Proofs.YtcidijjbcebcbaaGreat
namespace Go.Proofs.YtcidijjbcebcbaaGreat
open Go.RowKit Go.Joins

section
variable {B : Nat} {ts : List Tp} {w w' : World} {rb : Nat} {tv sv : Value} {E : Int} {o i : Nat} {qs : List Nd}
theorem kp_set4e (g : Nat) (w : World) (d0 d1 d2 d3 : Value) : Kp (fun k => k = g) w (set4 w g d0 d1 d2 d3) :=
  (((Kp.set (T := fun k => k = g) rfl _).trans (Kp.set (T := fun k => k = g) rfl _)).trans (Kp.set (T := fun k => k = g) rfl _)).trans (Kp.set (T := fun k => k = g) rfl _)
end
end Go.Proofs.YtcidijjbcebcbaaGreat
namespace Go.Proofs.YtcidijjbcebcbaaGreat
open Go.RowKit Go.Joins

theorem ok_lf {α : Type} {E : Int} {i : Nat} {x : α} : Cm (lf E i (.ok x i)) x i E := by
  by_cases hE : E = 0
  · exact .inr ⟨if_pos hE, hE⟩
  · exact lf_bad hE
theorem Cm.map {α β : Type} {r : Rs α} {g : α → β} {x : α} {i0 i : Nat} {E0 E : Int} (h : Cm (lf E0 i0 r) x i E) : Cm (lf E0 i0 (r.and fun t j => .ok (g t) j)) (g x) i E := h.lfand ok_lf
theorem isE_false {E : Int} {ts : List Tp} {i : Nat} {x : List UInt8} (h : isE E ts i x = false) (hE : E = 0) : isW ts i x = false := by
  subst hE; simpa [isE] using h
theorem word_no {ts : List Tp} {i : Nat} {x : List UInt8} {k : Int} (h : isW ts i x = true) (h1 : ¬ k = 1) (h4 : ¬ k = 4) : isK ts i k = false := by
  unfold isW at h; unfold isK
  cases e : ts[i]? with
  | none => rfl
  | some t =>
    rw [e] at h
    simp at h
    simp
    rcases h.1 with h | h <;> omega
theorem value_true {ts : List Tp} {i : Nat} (h : isW ts i [116, 114, 117, 101] = true) : valueS ts i = .ok (3, 1, []) (i + 1) := by
  have hf : isW ts i [102, 97, 108, 115, 101] = false := by
    cases hw : isW ts i [102, 97, 108, 115, 101] with
    | false => rfl
    | true =>
      unfold isW at h hw
      cases e : ts[i]? with
      | none => rw [e] at h; cases h
      | some t => rw [e] at h hw; simp at h hw; rw [h.2] at hw; simp at hw
  simp [valueS, word_no h (k := 2) (by decide) (by decide), word_no h (k := 3) (by decide) (by decide), oneOfS, boolW, idxOf, h, hf, Rs.and]
theorem value_false {ts : List Tp} {i : Nat} (h : isW ts i [102, 97, 108, 115, 101] = true) : valueS ts i = .ok (3, 0, []) (i + 1) := by
  simp [valueS, word_no h (k := 2) (by decide) (by decide), word_no h (k := 3) (by decide) (by decide), oneOfS, boolW, idxOf, h, Rs.and]
theorem value_num {ts : List Tp} {i : Nat} (h : isK ts i 2 = true) : valueS ts i = (takeS ts 2 i).and fun t j => .ok ((1, t.n, []) : Int × Int × List UInt8) j := by
  simp [valueS, h, numS', takeS, Rs.and]
theorem value_txt {ts : List Tp} {i : Nat} (h2 : isK ts i 2 = false) (ht : isW ts i [116, 114, 117, 101] = false) (hf : isW ts i [102, 97, 108, 115, 101] = false) : valueS ts i = (takeS ts 3 i).and fun t j => .ok ((2, 0, t.s) : Int × Int × List UInt8) j := by
  cases h3 : isK ts i 3 with
  | true => simp [valueS, h2, h3, textV]
  | false => simp [valueS, h2, h3, takeS, oneOfS, boolW, idxOf, ht, hf, Rs.and]
theorem rv_txt {ts : List Tp} {i j : Nat} {E E' : Int} {t : Tp} (h2 : isK ts i 2 = false) (ht : isE E ts i [116, 114, 117, 101] = false) (hf : isE E ts i [102, 97, 108, 115, 101] = false) (h : Cm (lf E i (takeS ts 3 i)) t j E') : Cm (lf E i (valueS ts i)) ((2, 0, t.s) : Int × Int × List UInt8) j E' := by
  by_cases hE : E = 0
  · rw [value_txt h2 (isE_false ht hE) (isE_false hf hE)]; exact h.map (g := fun t => ((2, 0, t.s) : Int × Int × List UInt8))
  · unfold lf at h ⊢
    rw [if_neg hE] at h ⊢
    rcases h with ⟨h, h2⟩ | ⟨h, h2⟩
    · cases h; exact .inl ⟨rfl, h2⟩
    · cases h
section
variable {B : Nat} {ts : List Tp} {w w' : World} {rb : Nat} {tv sv : Value} {E : Int} {o i : Nat} {qs : List Nd}
end
end Go.Proofs.YtcidijjbcebcbaaGreat
namespace Go.Proofs.YtcidijjbcebcbaaGreat
open Go.RowKit Go.Joins

theorem take_lf {ts : List Tp} {k : Int} {i j : Nat} {E E' : Int} {x : Tp} (h : Cm (lf E i (takeS ts k i)) x j E') : i ≤ j := by
  unfold lf takeS at h
  split at h
  · split at h
    · rcases h with ⟨h, h2⟩ | ⟨h, h2⟩
      · cases h
      · cases h; omega
    · rcases h with ⟨h, h2⟩ | ⟨h, h2⟩
      · cases h; omega
      · cases h
  · rcases h with ⟨h, h2⟩ | ⟨h, h2⟩
    · cases h; omega
    · cases h
section
variable {B : Nat} {ts : List Tp} {w w' : World} {rb : Nat} {tv sv : Value} {E : Int} {o i : Nat} {qs : List Nd}
end
end Go.Proofs.YtcidijjbcebcbaaGreat
namespace Go.Proofs.YtcidijjbcebcbaaGreat
open Go.RowKit Go.Joins

theorem lf_bad_and {α β : Type} {E c : Int} {i j : Nat} {r : Rs α} {f : α → Nat → Rs β} (h : lf E i r = .bad j c) : lf E i (r.and f) = .bad j c := by
  unfold lf at h ⊢
  split
  · rename_i hE; rw [if_pos hE] at h; rw [h]; rfl
  · rename_i hE; rw [if_neg hE] at h; cases h; rfl
theorem lf_ok_and {α β : Type} {E : Int} {i j : Nat} {r : Rs α} {x : α} {f : α → Nat → Rs β} (h : lf E i r = .ok x j) : lf E i (r.and f) = f x j ∧ r = .ok x j := by
  unfold lf at h ⊢
  split
  · rename_i hE; rw [if_pos hE] at h; rw [h]; exact ⟨rfl, rfl⟩
  · rename_i hE; rw [if_neg hE] at h; cases h
/- Where a chain stands; T: what it comes to. -/
def InvC (ts : List Tp) (x : List UInt8) (kind : Int) (p : PN) (T : Rs (Nat × List Np)) (f : Nat) (z : Int) (j : Nat) (ns : List Np) (E : Int) : Prop :=
  (E = 0 ∧ ∃ a : Nat, z = a ∧ a < ns.length ∧ ts.length ≤ f + j ∧ T = chainL ts x kind p f a j ns) ∨ (¬ E = 0 ∧ T = .bad j E)
theorem inv_start {ts : List Tp} {x : List UInt8} {kind : Int} {p : PN} {E E1 z : Int} {i j : Nat} {ns ns1 : List Np} (hg : GoN ts p) (h : Cm2 (lf E i (p i ns)) z ns1 j E1) : InvC ts x kind p (lf E i (chainS ts x kind p i ns)) ts.length z j ns1 E1 := by
  rcases h with ⟨h, hE⟩ | ⟨a, rfl, h, hE⟩
  · exact .inr ⟨hE, lf_bad_and h⟩
  · obtain ⟨h1, h2⟩ := lf_ok_and (f := fun r j => chainL ts x kind p ts.length r.1 j r.2) h
    have g := hg _ _ _ _ h2
    exact .inl ⟨hE, a, rfl, g.2.2.2.1, by omega, h1⟩
theorem inv_more {ts : List Tp} {x : List UInt8} {kind : Int} {p : PN} {T : Rs (Nat × List Np)} {f j : Nat} {z : Int} {ns : List Np} (h : InvC ts x kind p T f z j ns 0) (hw : isW ts j x = true) : ∃ f' a : Nat, z = a ∧ (ts.length ≤ f' + 1 + j ∧ T = (p (j + 1) ns).and fun r j => chainL ts x kind p f' r.2.length j (r.2 ++ [{ n0 with kind := kind, l := [(a : Int), (r.1 : Int)] }])) := by
  rcases h with ⟨-, a, hz, -, hf, hT⟩ | ⟨h, -⟩
  · have hl := isW_lt hw
    obtain ⟨f', rfl⟩ : ∃ f', f = f' + 1 := ⟨f - 1, by omega⟩
    rw [chainL, if_pos hw] at hT
    exact ⟨f', a, hz, hf, hT⟩
  · exact absurd rfl h
theorem inv_end {ts : List Tp} {x : List UInt8} {kind : Int} {p : PN} {T : Rs (Nat × List Np)} {f j : Nat} {z E : Int} {ns : List Np} (h : InvC ts x kind p T f z j ns E) (hw : E = 0 → isW ts j x = false) : Cm2 T z ns j E := by
  rcases h with ⟨hE, a, hz, -, -, hT⟩ | ⟨hE, hT⟩
  · refine .inr ⟨a, hz, ?_, hE⟩
    rw [hT]
    cases f with
    | zero => rfl
    | succ f => rw [chainL, if_neg (by rw [hw hE]; decide)]
  · exact .inl ⟨hT, hE⟩
theorem part_len {ts : List Tp} {p : PN} {j j4 : Nat} {z4 E4 : Int} {qs' qs4 : List Nd} (hg : GoN ts p) (h : Cm2 (lf 0 (if true = true then j + 1 else j) (p (if true = true then j + 1 else j) (qs'.map (·.np)))) z4 (qs4.map (·.np)) j4 E4) (hE : E4 = 0) (hl : qs'.length ≤ j) : qs4.length + 1 ≤ j4 := by
  simp only [if_true] at h
  rcases h with ⟨h, hn⟩ | ⟨a, -, h, -⟩
  · exact absurd hE hn
  · unfold lf at h; rw [if_pos rfl] at h
    have g := hg _ _ _ _ h
    simp at g; omega
theorem inv_next {ts : List Tp} {x : List UInt8} {kind : Int} {p : PN} {T : Rs (Nat × List Np)} {f' a j j4 j5 : Nat} {z4 z5 E4 E5 : Int} {ns : List Np} {qs4 qs5 : List Nd} (hg : GoN ts p)
    (hT : ts.length ≤ f' + 1 + j ∧ T = (p (j + 1) ns).and fun r j => chainL ts x kind p f' r.2.length j (r.2 ++ [{ n0 with kind := kind, l := [(a : Int), (r.1 : Int)] }]))
    (h4 : Cm2 (lf 0 (j + 1) (p (j + 1) ns)) z4 (qs4.map (·.np)) j4 E4) (h5 : Cm2 (lf E4 j4 (.ok (qs4.length, qs4.map (·.np) ++ [{ n0 with kind := kind, l := [(a : Int), z4] }]) j4)) z5 (qs5.map (·.np)) j5 E5) (_hl : j < ts.length) : InvC ts x kind p T f' z5 j5 (qs5.map (·.np)) E5 ∧ (E5 = 0 → j + 2 ≤ j5) := by
  obtain ⟨hf, rfl⟩ := hT
  rcases h4 with ⟨h4, hn⟩ | ⟨b, rfl, h4, rfl⟩
  · have e5 : lf E4 j4 (.ok (qs4.length, qs4.map (·.np) ++ [{ n0 with kind := kind, l := [(a : Int), z4] }]) j4) = .bad j4 E4 := if_neg hn
    rw [e5] at h5
    rcases h5 with ⟨h5, hn5⟩ | ⟨_, _, h5, _⟩
    · cases h5
      unfold lf at h4; rw [if_pos rfl] at h4
      exact ⟨.inr ⟨hn, by rw [h4]; rfl⟩, fun e => absurd e hn⟩
    · cases h5
  · unfold lf at h4 h5; rw [if_pos rfl] at h4 h5
    have g := hg _ _ _ _ h4
    rcases h5 with ⟨h5, _⟩ | ⟨c, rfl, h5, rfl⟩
    · cases h5
    · simp only [Rs.ok.injEq, Prod.mk.injEq] at h5
      obtain ⟨⟨hc, hns⟩, rfl⟩ := h5
      refine ⟨.inl ⟨rfl, c, rfl, by rw [← hns, ← hc]; simp, by omega, ?_⟩, fun _ => by omega⟩
      rw [h4, ← hns, ← hc]; simp [Rs.and]
theorem cm2_ne {E E1 z : Int} {i j : Nat} {r : Rs (Nat × List Np)} {ns : List Np} (hE : ¬ E = 0) (h : Cm2 (lf E i r) z ns j E1) : ¬ E1 = 0 := by
  unfold lf at h; rw [if_neg hE] at h
  rcases h with ⟨_, h⟩ | ⟨_, _, h, _⟩
  · exact h
  · cases h
section
variable {B : Nat} {ts : List Tp} {w w' : World} {rb : Nat} {tv sv : Value} {E : Int} {o i : Nat} {qs : List Nd}
def errOf (rb : Nat) (w : World) : Int := match w.cell? ⟨rb, 3, none⟩ with
  | some (.int _ n) => n
  | _ => 0
def msr (rb : Nat) (ts : List Tp) (w : World) : Nat := if errOf rb w = 0 then ts.length + 2 - atOf rb w else 0
end
end Go.Proofs.YtcidijjbcebcbaaGreat
namespace Go.Proofs.YtcidijjbcebcbaaGreat
open Go.RowKit Go.Joins

section
variable {B : Nat} {ts : List Tp} {w w' : World} {rb : Nat} {tv sv : Value} {E : Int} {o i : Nat} {qs : List Nd}
theorem not_fin {ts : List Tp} {p : PN} {i j j5 : Nat} {z z5 E E5 : Int} {ns : List Np} {qs1 qs5 : List Nd} (hw : isW ts i wNot = true) (h : Cm2 (lf 0 (i + 1) (p (i + 1) ns)) z (qs1.map (·.np)) j E) (h5 : Cm2 (lf E j (.ok (qs1.length, qs1.map (·.np) ++ [{ n0 with kind := 13, l := [z] }]) j)) z5 (qs5.map (·.np)) j5 E5) : Cm2 (lf 0 i (notB ts (some p) i ns)) z5 (qs5.map (·.np)) j5 E5 := by
  have e0 : lf 0 i (notB ts (some p) i ns) = (p (i + 1) ns).and fun r j => .ok (r.2.length, r.2 ++ [{ n0 with kind := 13, l := [(r.1 : Int)] }]) j := by
    unfold lf notB; rw [if_pos rfl, if_pos hw]
  rw [e0]
  rcases h with ⟨h, hn⟩ | ⟨b, rfl, h, rfl⟩
  · unfold lf at h h5; rw [if_pos rfl] at h; rw [if_neg hn] at h5
    rw [h]; exact h5
  · unfold lf at h h5; rw [if_pos rfl] at h h5
    rw [h]; simpa [Rs.and] using h5
end
end Go.Proofs.YtcidijjbcebcbaaGreat
namespace Go.Proofs.YtcidijjbcebcbaaGreat
open Go.RowKit Go.Joins

section
variable {B : Nat} {ts : List Tp} {w w' : World} {rb : Nat} {tv sv : Value} {E : Int} {o i : Nat} {qs : List Nd}
theorem part_len' {p : PN} {j j4 : Nat} {z4 E4 : Int} {qs' qs4 : List Nd} (hg : GoN ts p) (h : Cm2 (lf 0 (j + 1) (p (j + 1) (qs'.map (·.np)))) z4 (qs4.map (·.np)) j4 E4) (hE : E4 = 0) (hl : qs'.length ≤ j) : qs4.length + 1 ≤ j4 := part_len hg (by simpa using h) hE hl
end
end Go.Proofs.YtcidijjbcebcbaaGreat
namespace Go.Proofs.YtcidijjbcebcbaaGreat
open Go.RowKit Go.Joins

section
variable {B : Nat} {ts : List Tp} {w w' : World} {rb : Nat} {tv sv : Value} {E : Int} {o i : Nat} {qs : List Nd}
theorem isE0 {x : List UInt8} : isE 0 ts i x = isW ts i x := rfl
theorem gon_bad : GoN ts (fun i _ => .bad i 2) := fun i ns r j h => by cases h
theorem open_fin {p : PN} {j j5 : Nat} {z E E5 : Int} {ns ns1 : List Np} (hn : isW ts i wNot = false) (hw : isW ts i wOpen = true) (h : Cm2 (lf 0 (i + 1) (condB ts p (i + 1) ns)) z ns1 j E) (h5 : Cm (lf E j (wantS ts wShut j)) () j5 E5) : Cm2 (lf 0 i (notB ts (some p) i ns)) z ns1 j5 E5 := by
  have e0 : lf 0 i (notB ts (some p) i ns) = (condB ts p (i + 1) ns).and fun r j => (wantS ts wShut j).and fun _ j => .ok r j := by
    unfold lf notB; rw [if_pos rfl, hn, if_neg (by decide), if_pos hw]
    unfold inBr; rw [if_pos hw]; rfl
  rw [e0]
  rcases h with ⟨h, hE⟩ | ⟨a, rfl, h, rfl⟩
  · unfold lf at h h5; rw [if_pos rfl] at h; rw [if_neg hE] at h5
    rw [h]
    rcases h5 with ⟨h5, hE5⟩ | ⟨h5, hE5⟩
    · cases h5; exact .inl ⟨rfl, hE⟩
    · cases h5
  · unfold lf at h h5; rw [if_pos rfl] at h h5
    rw [h]
    rcases h5 with ⟨h5, hE5⟩ | ⟨h5, rfl⟩
    · refine .inl ⟨?_, hE5⟩
      show (wantS ts wShut j).and _ = _
      rw [h5]; rfl
    · refine .inr ⟨a, rfl, ?_, rfl⟩
      show (wantS ts wShut j).and _ = _
      rw [h5]; rfl
end
end Go.Proofs.YtcidijjbcebcbaaGreat
namespace Go.Proofs.YtcidijjbcebcbaaGreat
open Go.RowKit Go.Joins

def setL : Array Value → Nat → List Value → Array Value
  | xs, _, [] => xs
  | xs, o, v :: r => setL (xs.setIfInBounds o v) (o + 1) r
theorem setCells_blk {b : Nat} {t : TypeId} {fz : Nat × Nat} : ∀ (vs : List Value) (o : Nat) (w : World) (xs : Array Value), w.heap[b]? = some (.cells xs t fz) → (w.setCells b o vs).heap[b]? = some (.cells (setL xs o vs) t fz)
  | [], _, _, _, h => h
  | v :: r, o, w, xs, h => by rw [World.setCells]; exact setCells_blk r (o + 1) _ _ (block_set h o v)
theorem setCells_kp {b : Nat} : ∀ (vs : List Value) (o : Nat) (w : World), Kp (fun k => k = b) w (w.setCells b o vs)
  | [], _, w => Kp.refl _ _
  | v :: r, o, w => by rw [World.setCells]; exact (Kp.set (T := fun k => k = b) rfl v).trans (setCells_kp r (o + 1) _)
theorem load_node {ops : Array Oper} {rest : List Oper} {op : Oper} {a : Act} {w : World} {Q : Exit → Act → World → Prop} (hgd : op.guard = none) (x : Operand) (ho : op.op = .load 79 x) {nb : Nat} {q : Nd} (hx : a.eval x = dp nb) (hS : S6 nb q.cells.toArray w)
    (h : wpList Tryz.prog ops Q rest (a.put op.dst (.agg q.cells.toArray)) w) : wpList Tryz.prog ops Q (op :: rest) a w :=
  wpList_load_mid hgd 79 x ho nb 0 hx q.cells _ (s6_range hS) Tryz.underlying79 rfl size_node h
theorem s6_there {nb : Nat} {q : Nd} {w : World} (hS : S6 nb q.cells.toArray w) : w.there nb 5 11 := fun j hj => by
  refine ⟨?_, block_frozen hS _⟩
  rw [block_cell hS, Array.getElem?_eq_getElem (by show 5 + j < 19; omega)]
  rfl
theorem set_nv (q : Nd) (c : Int × Int × List UInt8) : setL q.cells.toArray 5 (VlV c).toList = ({ q with np := { q.np with vk := c.1, vn := c.2.1, vs := c.2.2 } } : Nd).cells.toArray := by
  kernel_rfl
theorem store_nv {ops : Array Oper} {rest : List Oper} {op : Oper} {a : Act} {w : World} {Q : Exit → Act → World → Prop} (hgd : op.guard = none) (x y : Operand) (ho : op.op = .store 52 x y) {nb : Nat} {q : Nd} {c : Int × Int × List UInt8} (hx : a.eval x = .pointer (some ⟨nb, 5, none⟩)) (hy : a.eval y = .agg (VlV c)) (hS : S6 nb q.cells.toArray w)
    (h : ∀ w', S6 nb ({ q with np := { q.np with vk := c.1, vn := c.2.1, vs := c.2.2 } } : Nd).cells.toArray w' → Kp (fun k => k = nb) w w' → wpList Tryz.prog ops Q rest (a.put op.dst undef) w') : wpList Tryz.prog ops Q (op :: rest) a w :=
  wpList_store_mid hgd 52 x y ho nb 5 (VlV c) hx hy (s6_there hS) size_val (one_val c) (h _ (by have := setCells_blk (VlV c).toList 5 w _ hS; rw [set_nv] at this; exact this) (setCells_kp _ _ _))
section
variable {B : Nat} {ts : List Tp} {w w' wr : World} {rb : Nat} {tv sv0 sv sv' : Value} {E E' : Int} {o o' i j j' : Nat} {qs qs' : List Nd} {nb : Nat} {q q' : Nd}
end
end Go.Proofs.YtcidijjbcebcbaaGreat
namespace Go.Proofs.YtcidijjbcebcbaaGreat
open Go.RowKit Go.Joins

/- A node as it may be handed in: its value's numbers, its rows wherever they lie. -/
structure Nx where
  np : Np
  h0 : Int
  h1 : Int
  h2 : Int
  h3 : Int
  h4 : Int
  h5 : Int
  h6 : Int
  h7 : Int
  lv : Value
  nv : Value
  gv : Value
def Nx.cells (q : Nx) : List Value := [.int .i64 q.np.kind, .string (St q.np.s), .int .i64 q.np.n, .int .i64 q.np.from_, .int .i64 q.np.to_, .int .i64 q.np.vk, .int .i64 q.np.vn, .string (St q.np.vs), .int .i64 q.h0, .int .i64 q.h1, .int .i64 q.h2, .int .i64 q.h3, .int .i64 q.h4, .int .i64 q.h5, .int .i64 q.h6, .int .i64 q.h7, q.lv, q.nv, q.gv]
structure NxAt (Q : Nat → Prop) (w : World) (q : Nx) : Prop where
  l : SlAt Q int1 1 w q.lv q.np.l
  n : SlAt Q str1 1 w q.nv q.np.names
  g : SlAt Q ag2 2 w q.gv q.np.aggs
structure Qx (Q : Nat → Prop) (w : World) (v : Value) (qs : List Nx) : Prop where
  sl : SlAt Q Nx.cells 19 w v qs
  each : ∀ q ∈ qs, NxAt Q w q
theorem NxAt.kp {Q T : Nat → Prop} {w w' : World} {q : Nx} (h : NxAt Q w q) (hk : Kp T w w') (ht : ∀ b, Q b → ¬ T b) : NxAt Q w' q := ⟨h.l.kp hk ht, h.n.kp hk ht, h.g.kp hk ht⟩
theorem Qx.kp {Q T : Nat → Prop} {w w' : World} {v : Value} {qs : List Nx} (h : Qx Q w v qs) (hk : Kp T w w') (ht : ∀ b, Q b → ¬ T b) : Qx Q w' v qs := ⟨h.sl.kp hk ht, fun q hq => (h.each q hq).kp hk ht⟩
theorem SlAt.one {α : Type} {Q : Nat → Prop} {enc : α → List Value} {k : Nat} {w : World} {v : Value} {xs : List α} (h : SlAt Q enc k w v xs) : v.oneCell' = true := by obtain ⟨p, c, rfl, -⟩ := h; rfl
theorem nx_one {Q : Nat → Prop} {w : World} {q : Nx} (h : NxAt Q w q) : ∀ c ∈ q.cells, c.oneCell' = true := by
  intro v hv
  have h1 := h.l.one
  have h2 := h.n.one
  have h3 := h.g.one
  simp [Nx.cells] at hv
  rcases hv with rfl | rfl | rfl | rfl | rfl | rfl | rfl | rfl | rfl | rfl | rfl | rfl | rfl | rfl | rfl | rfl | rfl | rfl | rfl <;> first | rfl | assumption
/- As mathematics. -/
def nmL (i : Nat) (seen : List Int) : List Int → Option (List Int)
  | [] => some seen
  | k :: r => if k < 0 ∨ (i : Int) ≤ k ∨ k ∈ seen then none else nmL i (k :: seen) r
def treeL : List Np → Nat → List Int → Bool
  | [], _, _ => true
  | n :: r, i, seen => if (n.l.length : Int) = belowN n.kind then (match nmL i seen n.l with | none => false | some s => treeL r (i + 1) s) else false
def isTreeB (ns : List Np) : Bool := if ns.length = 0 ∨ 128 < ns.length then false else treeL ns 0 []
def blA (seen : List Int) : Array Value := ((List.range 128).map fun (j : Nat) => Value.bool (decide ((j : Int) ∈ seen))).toArray
theorem blA_at (seen : List Int) (k : Nat) (hk : k < 128) : (blA seen)[k]? = some (.bool (decide ((k : Int) ∈ seen))) := by
  unfold blA; simp [hk]
theorem blA_set (seen : List Int) (k : Nat) : (blA seen).setIfInBounds k (.bool true) = blA ((k : Int) :: seen) := by
  apply Array.ext'
  apply List.ext_getElem?
  intro j
  unfold blA
  simp only [List.setIfInBounds_toArray, List.getElem?_set, List.getElem?_map, List.length_map, List.length_range]
  by_cases hj : j < 128
  · by_cases e : k = j
    · subst e; simp [hj]
    · have : ¬ (j : Int) = k := by omega
      simp [e, hj, this]
  · by_cases e : k = j
    · subst e; simp [hj]
    · simp [e, hj]
theorem blA_nil : blA [] = Array.replicate 128 (.bool false) := by kernel_rfl
end Go.Proofs.YtcidijjbcebcbaaGreat
namespace Go.Proofs.YtcidijjbcebcbaaGreat.TN
open Go.RowKit

/- A value's eleven cells, written out; its buckets' eight. -/
abbrev V (k n : Int) (s : ByteArray) (a0 a1 a2 a3 a4 a5 a6 a7 : Int) : Value := .agg #[.int .i64 k, .int .i64 n, .string s, .int .i64 a0, .int .i64 a1, .int .i64 a2, .int .i64 a3, .int .i64 a4, .int .i64 a5, .int .i64 a6, .int .i64 a7]
abbrev H8 (a0 a1 a2 a3 a4 a5 a6 a7 : Int) : Value := .agg #[.int .i64 a0, .int .i64 a1, .int .i64 a2, .int .i64 a3, .int .i64 a4, .int .i64 a5, .int .i64 a6, .int .i64 a7]

def eqH (a0 a1 a2 a3 a4 a5 a6 a7 b0 b1 b2 b3 b4 b5 b6 b7 : Int) : Bool :=
  decide (a0 = b0 ∧ a1 = b1 ∧ a2 = b2 ∧ a3 = b3 ∧ a4 = b4 ∧ a5 = b5 ∧ a6 = b6 ∧ a7 = b7)
def eqV (k n : Int) (s : ByteArray) (a0 a1 a2 a3 a4 a5 a6 a7 : Int) (k' n' : Int) (s' : ByteArray) (b0 b1 b2 b3 b4 b5 b6 b7 : Int) : Bool :=
  decide (k = k' ∧ n = n' ∧ s = s') && eqH a0 a1 a2 a3 a4 a5 a6 a7 b0 b1 b2 b3 b4 b5 b6 b7

theorem equalIn22 (a0 a1 a2 a3 a4 a5 a6 a7 b0 b1 b2 b3 b4 b5 b6 b7 : Int) (d : Nat) (w : World) :
    (Op.equalIn (d + 2) 50 (H8 a0 a1 a2 a3 a4 a5 a6 a7) (H8 b0 b1 b2 b3 b4 b5 b6 b7)).run Tryz.prog w = .ok (eqH a0 a1 a2 a3 a4 a5 a6 a7 b0 b1 b2 b3 b4 b5 b6 b7) w := by
  have u3 := Tryz.underlying3
  have a3' := Tryz.isAgg3
  have z3 := Tryz.sizeOf3
  rw [show d + 2 = (d + 1) + 1 from rfl, Op.equalIn]
  simp only [Sem.run_bind, run_underlying Tryz.underlying50, Result.andThen_ok]
  simp only [Std.Legacy.Range.forIn_eq_forIn_range', Std.Legacy.Range.size, Nat.sub_zero, Nat.add_sub_cancel, Nat.div_one, List.range'_succ, List.range'_zero, List.forIn_cons, List.forIn_nil]
  go_simp
  unfold eqH
  by_cases h0 : a0 = b0
  · by_cases h1 : a1 = b1
    · by_cases h2 : a2 = b2
      · by_cases h3 : a3 = b3
        · by_cases h4 : a4 = b4
          · by_cases h5 : a5 = b5
            · by_cases h6 : a6 = b6
              · by_cases h7 : a7 = b7 <;> simp [h0, h1, h2, h3, h4, h5, h6, h7]
              · simp [h0, h1, h2, h3, h4, h5, h6]
            · simp [h0, h1, h2, h3, h4, h5]
          · simp [h0, h1, h2, h3, h4]
        · simp [h0, h1, h2, h3]
      · simp [h0, h1, h2]
    · simp [h0, h1]
  · simp [h0]
theorem eql22 (a0 a1 a2 a3 a4 a5 a6 a7 b0 b1 b2 b3 b4 b5 b6 b7 : Int) (w : World) :
    (Op.equalIn 10000 50 (H8 a0 a1 a2 a3 a4 a5 a6 a7) (H8 b0 b1 b2 b3 b4 b5 b6 b7)).run Tryz.prog w = .ok (eqH a0 a1 a2 a3 a4 a5 a6 a7 b0 b1 b2 b3 b4 b5 b6 b7) w :=
  equalIn22 _ _ _ _ _ _ _ _ _ _ _ _ _ _ _ _ 9998 w
theorem bytes_toList_inj {s t : ByteArray} (h : s.toList = t.toList) : s = t := by
  rw [ByteArray.toList_eq, ByteArray.toList_eq] at h
  obtain ⟨⟨x⟩⟩ := s
  obtain ⟨⟨y⟩⟩ := t
  simp at h
  subst h; rfl
theorem bytes_beq (s t : ByteArray) : (s.toList == t.toList) = decide (s = t) := by
  by_cases h : s = t
  · subst h; simp
  · have : ¬ s.toList = t.toList := fun e => h (bytes_toList_inj e)
    simp [h, this]
theorem equalIn24 (k n : Int) (s : ByteArray) (a0 a1 a2 a3 a4 a5 a6 a7 : Int) (k' n' : Int) (s' : ByteArray) (b0 b1 b2 b3 b4 b5 b6 b7 : Int) (d : Nat) (w : World) :
    (Op.equalIn (d + 3) 52 (V k n s a0 a1 a2 a3 a4 a5 a6 a7) (V k' n' s' b0 b1 b2 b3 b4 b5 b6 b7)).run Tryz.prog w = .ok (eqV k n s a0 a1 a2 a3 a4 a5 a6 a7 k' n' s' b0 b1 b2 b3 b4 b5 b6 b7) w := by
  have u3 := Tryz.underlying3
  have a3' := Tryz.isAgg3
  have z3 := Tryz.sizeOf3
  have u9 := Tryz.underlying9
  have a9' := Tryz.isAgg9
  have z9 := Tryz.sizeOf9
  have a22' := Tryz.isAgg50
  have z22 := Tryz.sizeOf50
  have hS : Tryz.prog.underlying 52 = some (.struct (Tryz.prog.fieldsOf 52)) := by kernel_rfl
  have e22 := equalIn22 a0 a1 a2 a3 a4 a5 a6 a7 b0 b1 b2 b3 b4 b5 b6 b7 d
  rw [show d + 3 = (d + 2) + 1 from rfl, run_equalIn_agg w (d + 2) 52 _ _ hS Tryz.stoodInHeld52]
  simp only [Program.fieldsOf, Tryz.underlying52]
  have hb := bytes_beq s s'
  go_simp
  unfold eqV
  by_cases h0 : k = k'
  · by_cases h1 : n = n'
    · by_cases h2 : s = s'
      · cases eqH a0 a1 a2 a3 a4 a5 a6 a7 b0 b1 b2 b3 b4 b5 b6 b7 <;> simp [h0, h1, h2]
      · simp [h0, h1, h2]
    · simp [h0, h1]
  · simp [h0]
theorem eql24 (k n : Int) (s : ByteArray) (a0 a1 a2 a3 a4 a5 a6 a7 : Int) (k' n' : Int) (s' : ByteArray) (b0 b1 b2 b3 b4 b5 b6 b7 : Int) (w : World) :
    (Op.equalIn 10000 52 (V k n s a0 a1 a2 a3 a4 a5 a6 a7) (V k' n' s' b0 b1 b2 b3 b4 b5 b6 b7)).run Tryz.prog w = .ok (eqV k n s a0 a1 a2 a3 a4 a5 a6 a7 k' n' s' b0 b1 b2 b3 b4 b5 b6 b7) w :=
  equalIn24 _ _ _ _ _ _ _ _ _ _ _ _ _ _ _ _ _ _ _ _ _ _ 9997 w
theorem bcell {W w1 : World} (hb : Below W.heap.size W w1) : (∀ b o, b < W.heap.size → w1.cell? ⟨b, o, none⟩ = W.cell? ⟨b, o, none⟩) ∧ (∀ b o, b < W.heap.size → w1.frozen? ⟨b, o, none⟩ = W.frozen? ⟨b, o, none⟩) :=
  ⟨fun b o h => hb.cell (p := ⟨b, o, none⟩) h, fun b o h => hb.frozen (p := ⟨b, o, none⟩) h⟩

set_option maxHeartbeats 400000 in
theorem ofInt_any {n : Int} {w : World} :
    Calls Tryz.prog 79 #[.int .i64 n] w fun e w' => e = .returned (V 1 n ⟨#[]⟩ 0 0 0 0 0 0 0 0) ∧ Below w.heap.size w w' := by
  go_enter Tryz.func79, Tryz.ntmps79
  go_wp2
  exact bodyPost_ret (v := V 1 n ⟨#[]⟩ 0 0 0 0 0 0 0 0) (by simp [results, Tryz.results79, go_sem]) rfl ⟨rfl, (Below.refl _ _).alloc (Nat.le_refl _) _⟩
def cut64 (s : ByteArray) : ByteArray := s.extract 0 64
theorem cut64_short {s : ByteArray} (h : s.size ≤ 64) : cut64 s = s := by
  unfold cut64
  apply bytes_toList_inj
  rw [ByteArray.toList_eq, ByteArray.toList_eq]
  obtain ⟨⟨x⟩⟩ := s
  simp [ByteArray.size] at h
  rw [ByteArray.data_extract]
  simp [List.take_of_length_le h]
set_option maxHeartbeats 400000 in
theorem ofStr_any {s : ByteArray} {w : World} :
    Calls Tryz.prog 80 #[.string s] w fun e w' => e = .returned (V 2 0 (cut64 s) 0 0 0 0 0 0 0 0) ∧ Below w.heap.size w w' := by
  by_cases h : 64 < (s.size : Int)
  · go_enter Tryz.func80, Tryz.ntmps80
    go_wp2
    exact bodyPost_ret (v := V 2 0 (cut64 s) 0 0 0 0 0 0 0 0) (by simp [results, Tryz.results80, go_sem, cut64]) rfl ⟨rfl, (Below.refl _ _).alloc (Nat.le_refl _) _⟩
  · have h' : (s.size : Int) ≤ 64 := by omega
    rw [cut64_short (by omega)]
    go_enter Tryz.func80, Tryz.ntmps80
    go_wp2
    exact bodyPost_ret (v := V 2 0 s 0 0 0 0 0 0 0 0) (by simp [results, Tryz.results80, go_sem]) rfl ⟨rfl, (Below.refl _ _).alloc (Nat.le_refl _) _⟩
def b2i (b : Bool) : Int := if b then 1 else 0
set_option maxHeartbeats 400000 in
theorem ofBool_any {b : Bool} {w : World} :
    Calls Tryz.prog 81 #[.bool b] w fun e w' => e = .returned (V 3 (b2i b) ⟨#[]⟩ 0 0 0 0 0 0 0 0) ∧ Below w.heap.size w w' := by
  cases b
  · go_enter Tryz.func81, Tryz.ntmps81
    go_wp2
    exact bodyPost_ret (v := V 3 0 ⟨#[]⟩ 0 0 0 0 0 0 0 0) (by simp [results, Tryz.results81, go_sem]) rfl ⟨rfl, (Below.refl _ _).alloc (Nat.le_refl _) _⟩
  · go_enter Tryz.func81, Tryz.ntmps81
    go_wp2
    exact bodyPost_ret (v := V 3 1 ⟨#[]⟩ 0 0 0 0 0 0 0 0) (by simp [results, Tryz.results81, go_sem]) rfl ⟨rfl, (Below.refl _ _).alloc (Nat.le_refl _) _⟩
set_option maxHeartbeats 400000 in
theorem ofBuckets_any {a0 a1 a2 a3 a4 a5 a6 a7 : Int} {w : World} :
    Calls Tryz.prog 82 #[H8 a0 a1 a2 a3 a4 a5 a6 a7] w fun e w' => e = .returned (V 4 0 ⟨#[]⟩ a0 a1 a2 a3 a4 a5 a6 a7) ∧ Below w.heap.size w w' := by
  go_enter Tryz.func82, Tryz.ntmps82
  go_wp2
  exact bodyPost_ret (v := V 4 0 ⟨#[]⟩ a0 a1 a2 a3 a4 a5 a6 a7) (by simp [results, Tryz.results82, go_sem]) rfl ⟨rfl, ((Below.refl _ _).alloc (Nat.le_refl _) _).alloc (by simp) _⟩

end Go.Proofs.YtcidijjbcebcbaaGreat.TN
