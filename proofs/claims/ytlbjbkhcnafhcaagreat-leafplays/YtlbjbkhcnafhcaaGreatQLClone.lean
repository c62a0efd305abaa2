/-
  Clone of package leaf: what the map of cloned runs holds, key by key, while the runs come in an order that nobody knows.
-/
import Derived.Test.YtlbjbkhcnafhcaaGreatP28LFit
import Derived.Maps.RangeWalk
import Derived.Maps.Ext
namespace Go.Proofs.YtlbjbkhcnafhcaaGreat
open Go.RowKit Go.Sort Go.Shelf Go.Maps

abbrev ky (j : Nat) : Lit := .int .i64 (j : Int)
def mkP : Option Nat → Value
  | none => .pointer none
  | some b => dp b
/- What is cloned: the runs of those keys that are no longer to come. -/
structure Cn (B1 : Nat) (P : Nat → Prop) (w : World) (R : List (List Sp)) (left : Lit → Bool) (f : Nat → Rm) (D : D1) : Prop where
  has : ∀ x : Int, Maps.has D (.int .i64 x) = (decide (0 ≤ x ∧ x < (R.length : Int)) && !left (.int .i64 x))
  elt : ∀ x : Int, D.atKey (.int .i64 x) (.lit (.int .i64 (-1))) = .lit (.int .i64 (if 0 ≤ x ∧ x < (R.length : Int) ∧ left (.int .i64 x) = false then ((f x.toNat).b : Int) else -1))
  run : ∀ (j : Nat) q, R[j]? = some q → left (ky j) = false → RN.Rk B1 P w (f j).b (f j).sv (f j).pv q
  apart : ∀ (i j : Nat), i ≠ j → i < R.length → j < R.length → left (ky i) = false → left (ky j) = false → ∀ k, (f i).T k → ¬ (f j).T k
theorem Cn.start {B1 : Nat} {P : Nat → Prop} {w : World} {R : List (List Sp)} {D : D1} {bs : List Nat} {f : Nat → Rm} (ha : AgR D bs) (hl : bs.length = R.length) : Cn B1 P w R (Maps.has D) f (.map []) := by
  have hin : ∀ j : Nat, j < R.length → Maps.has D (ky j) = true := fun j hj => by rw [(ha (j : Int)).1]; exact decide_eq_true (by omega)
  refine ⟨fun x => ?_, fun x => ?_, fun j q h1 h2 => ?_, fun i j _ hi _ h2 _ => ?_⟩
  · rw [(ha x).1, hl]
    cases decide (0 ≤ x ∧ x < (R.length : Int)) <;> rfl
  · rw [if_neg (fun h => by rw [(ha x).1, decide_eq_false_iff_not] at h; exact h.2.2 ⟨h.1, by omega⟩)]
    rfl
  · rw [hin j (List.getElem?_eq_some_iff.1 h1).1] at h2; cases h2
  · rw [hin i hi] at h2; cases h2
theorem same_key (x y : Int) : (Lit.int .i64 x).sameKey (.int .i64 y) = decide (x = y) := by
  by_cases e : x = y
  · subst e; simp [Lit.sameKey]
  · simp [Lit.sameKey, e]
theorem Cn.kp {B1 : Nat} {P T : Nat → Prop} {w w' : World} {R : List (List Sp)} {left : Lit → Bool} {f : Nat → Rm} {D : D1} (h : Cn B1 P w R left f D) (hk : Kp T w w') (ht : ∀ k cs t fz, w.heap[k]? = some (.cells cs t fz) → ¬ T k) : Cn B1 P w' R left f D :=
  ⟨h.has, h.elt, fun j q h1 h2 => (h.run j q h1 h2).kp hk (fun k hk => by obtain ⟨cs, t, fz, hc, _⟩ := (h.run j q h1 h2).T_kind k hk; exact ht k cs t fz hc) (fun k ⟨_, c, fz, hc⟩ => ht k c _ fz hc), h.apart⟩
theorem Cn.step {B1 : Nat} {P : Nat → Prop} {w w1 : World} {R : List (List Sp)} {left : Lit → Bool} {f : Nat → Rm} {D : D1} {j : Nat} {q : List Sp} {r : Rm} (h : Cn B1 P w R left f D) (hm : IsMap D) (hj : R[j]? = some q) (hb : Below w.heap.size w w1) (hB : B1 ≤ w.heap.size) (hl : left (ky j) = true) (hr : RN.Rk w.heap.size P w1 r.b r.sv r.pv q) :
    Cn B1 P w1 R (fun z => left z && !z.sameKey (ky j)) (fun i => if i = j then r else f i) (D.put (ky j) (.lit (.int .i64 (r.b : Int)))) := by
  have hjl := (List.getElem?_eq_some_iff.1 hj).1
  refine ⟨fun x => ?_, fun x => ?_, fun i q' h1 h2 => ?_, fun i k hne hi hk h2 h3 => ?_⟩
  · by_cases e : x = (j : Int)
    · subst e
      rw [has_put_same hm (isKey3 _)]
      rw [same_key, decide_eq_true rfl, decide_eq_true (by omega)]; simp
    · rw [has_put_other (fun h => e (by injection h)), h.has, same_key, decide_eq_false e]; simp
  · by_cases e : x = (j : Int)
    · subst e
      rw [atKey_put_same hm (isKey3 _), same_key, decide_eq_true rfl, if_pos ⟨by omega, by omega, by simp⟩]; simp
    · rw [atKey_put_other (fun h => e (by injection h)), h.elt, same_key, decide_eq_false e]
      by_cases c : 0 ≤ x ∧ x < (R.length : Int) ∧ left (.int .i64 x) = false
      · rw [if_pos c, if_pos ⟨c.1, c.2.1, by simp [c.2.2]⟩, if_neg (by omega)]
      · rw [if_neg c, if_neg (fun c' => c ⟨c'.1, c'.2.1, by simpa using c'.2.2⟩)]
  · by_cases e : i = j
    · subst e
      rw [hj] at h1; cases h1
      rw [if_pos rfl]
      exact hr.le hB
    · rw [if_neg e]
      refine (h.run i q' h1 ?_).on hb
      simp only [same_key] at h2
      rw [decide_eq_false (by omega)] at h2
      simpa using h2
  · have key : ∀ i : Nat, i ≠ j → (left (ky i) && !(ky i).sameKey (ky j)) = false → left (ky i) = false := fun i e h2 => by
      rw [same_key, decide_eq_false (by omega)] at h2
      simpa using h2
    intro g
    have new : r.T g → w.heap.size ≤ g := hr.T_ge g
    have old : ∀ i : Nat, i < R.length → left (ky i) = false → (f i).T g → g < w.heap.size := fun i hi hl => (h.run i _ (List.getElem?_eq_getElem hi) hl).T_lt g
    by_cases e1 : i = j
    · have e2 : ¬ k = j := fun e => hne (e1.trans e.symm)
      show (if i = j then r else f i).T g → ¬ (if k = j then r else f k).T g
      rw [if_pos e1, if_neg e2]
      intro g1 g2
      have := new g1; have := old k hk (key k e2 h3) g2; omega
    · by_cases e2 : k = j
      · show (if i = j then r else f i).T g → ¬ (if k = j then r else f k).T g
        rw [if_neg e1, if_pos e2]
        intro g1 g2
        have := new g2; have := old i hi (key i e1 h2) g1; omega
      · show (if i = j then r else f i).T g → ¬ (if k = j then r else f k).T g
        rw [if_neg e1, if_neg e2]
        exact h.apart i k hne hi hk (key i e1 h2) (key k e2 h3) g
/- All are cloned. -/
theorem Cn.done {B B1 : Nat} {P : Nat → Prop} {w : World} {R : List (List Sp)} {left : Lit → Bool} {f : Nat → Rm} {D : D1} (h : Cn B1 P w R left f D) (hl : ∀ k, left k = false) (hB : B ≤ B1) :
    AgR D (((List.range R.length).map f).map Rm.b) ∧ Rl B P w ((List.range R.length).map f) R := by
  have hf : ∀ (j : Nat) (r : Rm), ((List.range R.length).map f)[j]? = some r → r = f j ∧ j < R.length := fun j r hr => by
    rw [List.getElem?_map, Option.map_eq_some_iff] at hr
    obtain ⟨i, hi, e⟩ := hr
    obtain ⟨h1, h2⟩ := List.getElem?_eq_some_iff.1 hi
    rw [List.getElem_range] at h2
    subst h2
    exact ⟨e.symm, by simpa using h1⟩
  refine ⟨fun x => ⟨?_, ?_⟩, ⟨by simp, fun j r q h1 h2 => ?_, fun i j r s hne h1 h2 => ?_⟩⟩
  · rw [h.has, hl]; simp
  · rw [h.elt]
    unfold runAt
    simp only [List.length_map, List.length_range]
    by_cases c : 0 ≤ x ∧ x < (R.length : Int)
    · rw [if_pos ⟨c.1, c.2, hl _⟩, if_pos c, getElem!_pos _ _ (by simp; omega)]
      simp
    · rw [if_neg (fun c' => c ⟨c'.1, c'.2.1⟩), if_neg c]
  · obtain ⟨rfl, _⟩ := hf j r h1
    exact (h.run j q h2 (hl _)).le hB
  · obtain ⟨rfl, hi⟩ := hf i r h1
    obtain ⟨rfl, hj⟩ := hf j s h2
    exact h.apart i j hne hi hj (hl _) (hl _)
theorem iter_blk {w : World} {b r n : Nat} {D : D1} {left : Lit → Bool} {cnt : Nat} (h : w.ranges Tryz.prog 3 pElem b r n D left cnt) : ∃ a s e c, w.heap[r]? = some (.mapIter a s e c) := by
  obtain ⟨es, clock, since, seen, c0, _, _, _, _, hr, _⟩ := h
  exact ⟨_, _, _, _, hr⟩
/- The step: the next run, whichever it is. -/
theorem next_run {ops : Array Oper} {rest : List Oper} {o : Oper} {a : Act} {Q : Exit → Act → World → Prop} (w : World) (hg : o.guard = none) (it : Operand) (hop : o.op = Op.next it false) (b r n : Nat) (D : D1) (left : Lit → Bool) (cnt : Nat) (rs : List Rm)
    (hit : a.eval it = .pointer (some ⟨r, 0, none⟩)) (h : w.ranges Tryz.prog 3 pElem b r n D left cnt) (ha : AgR D (rs.map Rm.b)) (hin : ∀ x : Int, left (.int .i64 x) = true → 0 ≤ x ∧ x < (rs.length : Int))
    (hDone : (∀ kl, left kl = false) → wpList Tryz.prog ops Q rest (a.put o.dst (.tuple #[.bool false])) w)
    (hMore : ∀ (j : Nat) (m : Rm) (w' : World) (cnt' : Nat), rs[j]? = some m → left (ky j) = true → w'.ranges Tryz.prog 3 pElem b r n D (fun z => left z && !z.sameKey (ky j)) cnt' → cnt' < cnt →
      w.grownBy w' (some r) → w'.heap.size = w.heap.size → (Instr.entry (.pointer (some ⟨r, 0, none⟩))).run Tryz.prog w' = .ok (.tuple #[.int .i64 (j : Int), dp m.b]) w' → wpList Tryz.prog ops Q rest (a.put o.dst (.tuple #[.bool true, .int .i64 (j : Int), dp m.b])) w') :
    wpList Tryz.prog ops Q (o :: rest) a w := by
  refine wpList_next_ranges w hg it hop 3 law3 pElem (Value.int .i64) mkP (fun key kl hkey => by obtain ⟨x, rfl, _⟩ := Maps.keyOf_int_inv Tryz.underlying3 hkey; exact ⟨x, rfl⟩) (fun v y hv => by
    rcases pElem_inv hv with ⟨rfl, _⟩ | ⟨b, rfl, _⟩
    · exact ⟨none, rfl⟩
    · exact ⟨some b, rfl⟩) b r n D left cnt hit h (fun _ h0 => hDone h0) (fun x c kl y w' cnt' hkey hlk hv hat hrg hlt hgr hsz hen => ?_)
  obtain ⟨x', ex, rfl, hwx⟩ := Maps.keyOf_int_inv Tryz.underlying3 hkey
  cases ex
  obtain ⟨h1, h2⟩ := hin x hlk
  obtain ⟨j, rfl⟩ : ∃ j : Nat, x = (j : Int) := ⟨x.toNat, by omega⟩
  have hj : j < rs.length := by omega
  have hm := List.getElem?_eq_getElem hj
  have e := hat (.lit (.int .i64 (-1)))
  rw [(ha (j : Int)).2, runAt_in (b := rs[j].b) (by rw [List.getElem?_map, hm]; rfl)] at e
  have ec : mkP c = dp rs[j].b := by
    rcases pElem_inv hv with ⟨h3, rfl⟩ | ⟨b, h3, rfl⟩
    · simp only [DataW.lit.injEq, Lit.int.injEq, true_and] at e; omega
    · simp only [DataW.lit.injEq, Lit.int.injEq, true_and] at e
      have : rs[j].b = b := by omega
      rw [this, h3]
  rw [ec] at hen ⊢
  exact hMore j rs[j] w' cnt' hm hlk hrg hlt hgr hsz hen
end Go.Proofs.YtlbjbkhcnafhcaaGreat
