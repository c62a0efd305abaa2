/-
  Join of two indexes, name by name and field by field, in whatever order they come.
-/
import Derived.Test.YtmkilckoeaekkaaQHAdd
namespace Go.Proofs.Ytmkilckoeaekkaa
open Go.RowKit Go.Sort Go.Maps Go.Shelf

/- x with all that o has of the names that are no longer to come. -/
def joinL (x o : Ix) (lf : Lit → Bool) : Ix := ⟨fun n => x.seen n || (o.seen n && !lf (kl n)), fun n g => x.bits n g ||| (if lf (kl n) = true then 0 else o.bits n g)⟩
def joinF (g h : ByteArray → F256) (li : Lit → Bool) : ByteArray → F256 := fun s => g s ||| (if li (kl s) = true then 0 else h s)
theorem or_zero (F : F256) : F ||| 0 = F := by apply f_ext; intro n hn; simp
theorem Ix.ext {x y : Ix} (h1 : ∀ n, x.seen n = y.seen n) (h2 : ∀ n g, x.bits n g = y.bits n g) : x = y := by
  cases x; cases y
  congr 1
  · exact funext h1
  · exact funext fun n => funext (h2 n)
theorem joinL_start {x o : Ix} {lf : Lit → Bool} (h : ∀ n, lf (kl n) = o.seen n) (ho : ∀ n, o.seen n = false → ∀ g, o.bits n g = 0) : joinL x o lf = x := by
  refine Ix.ext (fun n => ?_) (fun n g => ?_)
  · show (x.seen n || (o.seen n && !lf (kl n))) = _
    rw [h n]; cases o.seen n <;> simp
  · show x.bits n g ||| (if lf (kl n) = true then 0 else o.bits n g) = _
    rw [h n]
    split
    · exact or_zero _
    · rename_i e; rw [ho n (by simpa using e) g]; exact or_zero _
theorem joinL_end {x o : Ix} {lf : Lit → Bool} (h : ∀ l, lf l = false) : joinL x o lf = x.join o := by
  refine Ix.ext (fun n => ?_) (fun n g => ?_)
  · show (x.seen n || (o.seen n && !lf (kl n))) = _
    rw [h]; simp [Ix.join]
  · show x.bits n g ||| (if lf (kl n) = true then 0 else o.bits n g) = _
    rw [h]; rfl
theorem joinL_bits {x o : Ix} {lf : Lit → Bool} {n : ByteArray} (h : lf (kl n) = true) : (joinL x o lf).bits n = x.bits n := funext fun g => by
  show x.bits n g ||| (if lf (kl n) = true then 0 else o.bits n g) = _
  rw [if_pos h]; exact or_zero _
theorem joinL_step {x o : Ix} {lf : Lit → Bool} {n : ByteArray} (hs : o.seen n = true) {li : Lit → Bool} (hl : ∀ l, li l = false) : ((joinL x o lf).see n).put n (joinF (x.bits n) (o.bits n) li) = joinL x o (fun z => lf z && !z.sameKey (kl n)) := by
  refine Ix.ext (fun m => ?_) (fun m g => ?_)
  · show ((x.seen m || (o.seen m && !lf (kl m))) || decide (m = n)) = (x.seen m || (o.seen m && !(lf (kl m) && !(kl m).sameKey (kl n))))
    rw [same_kl]
    by_cases e : m = n
    · subst e; rw [hs]; simp
    · simp [e]
  · show (if m = n then joinF (x.bits n) (o.bits n) li else (joinL x o lf).bits m) g = x.bits m g ||| (if (lf (kl m) && !(kl m).sameKey (kl n)) = true then 0 else o.bits m g)
    rw [same_kl]
    by_cases e : m = n
    · subst e
      rw [if_pos rfl]
      unfold joinF
      rw [hl]; simp
    · rw [if_neg e]
      simp only [e, decide_false, Bool.not_false, Bool.and_true]
      rfl
theorem joinF_start {g h : ByteArray → F256} {li : Lit → Bool} (hh : ∀ s, li (kl s) = false → h s = 0) : joinF g h li = g := funext fun s => by
  unfold joinF
  split
  · exact or_zero _
  · rename_i e; rw [hh s (by simpa using e)]; exact or_zero _
theorem joinF_step {g h : ByteArray → F256} {li : Lit → Bool} {s : ByteArray} {F : F256} (hs : li (kl s) = true) (hF : h s = F) : setT (joinF g h li) s F = joinF g h (fun z => li z && !z.sameKey (kl s)) := funext fun t => by
  unfold setT setG
  by_cases e : t = s
  · subst e
    rw [if_pos rfl]
    unfold joinF
    rw [if_pos hs, hF]
    simp [same_kl]
  · rw [if_neg e]
    unfold joinF
    simp [same_kl, e]
theorem agb_has {D : D1} {h : ByteArray → F256} (ha : AgB D h) {s : ByteArray} (hn : Maps.has D (kl s) = false) : h s = 0 := by
  have := ha s
  rw [atKey_of_not_has hn] at this
  exact (dB_inj this).symm
theorem ranges_kp {T : Nat → Prop} {R : Value → Option (D1 × List MemPlace)} {w w' : World} {b r n : Nat} {D : D1} {left : Lit → Bool} {cnt : Nat} (h : w.ranges Try.prog 9 R b r n D left cnt) (hk : Kp T w w') (hb : ¬ T b) (hr : ¬ T r) : w'.ranges Try.prog 9 R b r n D left cnt := by
  obtain ⟨es, clock, since, seen, c0, h1, F, hs, hD, h2, rest⟩ := h
  exact ⟨es, clock, since, seen, c0, hk.blk h1 hb, F, hs, hD, hk.blk h2 hr, rest⟩
theorem iter_blk {R : Value → Option (D1 × List MemPlace)} {w : World} {b r n : Nat} {D : D1} {left : Lit → Bool} {cnt : Nat} (h : w.ranges Try.prog 9 R b r n D left cnt) : ∃ a s e c, w.heap[r]? = some (.mapIter a s e c) := by
  obtain ⟨es, clock, since, seen, c0, _, _, _, _, hr, _⟩ := h
  exact ⟨_, _, _, _, hr⟩
theorem Hk.not_iter {B : Nat} {w : World} {b : Nat} {mo : Option Nat} {f c : ByteArray → Nat} {N : Nat} {x : Ix} (h : Hk B w b mo f c N x) {r : Nat} {a : Option Nat} {s : Nat} {e : Array Nat} {c0 : Nat} (hr : w.heap[r]? = some (.mapIter a s e c0)) : ¬ Th b mo f x r := fun ht => by
  rcases h.T_kind r ht with ⟨cs, hc⟩ | ⟨es, c, hc⟩
  · rw [hr] at hc; cases hc
  · rw [hr] at hc; cases hc
/- The next name, whichever it is. -/
theorem next_name {ops : Array Oper} {rest : List Oper} {o : Oper} {a : Act} {Q : Exit → Act → World → Prop} (w : World) (hg : o.guard = none) (it : Operand) (hop : o.op = Op.next it false) (m r n : Nat) (D : D1) (left : Lit → Bool) (cnt : Nat) (y : Ix) (f : ByteArray → Nat)
    (hit : a.eval it = .pointer (some ⟨r, 0, none⟩)) (h : w.ranges Try.prog 9 mElem m r n D left cnt) (ha : AgN D y f) (hin : ∀ s, left (kl s) = true → y.seen s = true)
    (hDone : (∀ l, left l = false) → wpList Try.prog ops Q rest (a.put o.dst (.tuple #[.bool false])) w)
    (hMore : ∀ (s : ByteArray) (w' : World) (cnt' : Nat), y.seen s = true → s.size ≤ maxLen → left (kl s) = true → w'.ranges Try.prog 9 mElem m r n D (fun z => left z && !z.sameKey (kl s)) cnt' → cnt' < cnt →
      w.grownBy w' (some r) → w'.heap.size = w.heap.size → (Instr.entry (.pointer (some ⟨r, 0, none⟩))).run Try.prog w' = .ok (.tuple #[.string s, mp (f s)]) w' → wpList Try.prog ops Q rest (a.put o.dst (.tuple #[.bool true, .string s, mp (f s)])) w') :
    wpList Try.prog ops Q (o :: rest) a w := by
  refine wpList_next_ranges w hg it hop 9 law9 mElem Value.string mkM (fun key l hkey => by obtain ⟨s, rfl, _⟩ := key9_inv hkey; exact ⟨s, rfl⟩) (fun v y hv => by
    rcases mElem_inv hv with ⟨rfl, _⟩ | ⟨b, rfl, _⟩
    · exact ⟨none, rfl⟩
    · exact ⟨some b, rfl⟩) m r n D left cnt hit h (fun _ h0 => hDone h0) (fun s c l z w' cnt' hkey hlk hv hat hrg hlt hgr hsz hen => ?_)
  obtain ⟨s', es, rfl, hsz'⟩ := key9_inv hkey
  cases es
  have hy := hin s hlk
  have e := hat (dM (-1))
  rw [(ha s).2] at e
  have ec : mkM c = mp (f s) := by
    unfold atN at e
    rw [if_pos hy] at e
    rcases mElem_inv hv with ⟨h3, rfl⟩ | ⟨b, h3, rfl⟩
    · simp only [dM, DataW.lit.injEq, Lit.int.injEq, true_and] at e; omega
    · simp only [dM, DataW.lit.injEq, Lit.int.injEq, true_and] at e
      have : f s = b := by omega
      rw [this, h3]
  rw [ec] at hen ⊢
  exact hMore s w' cnt' hy hsz' hlk hrg hlt hgr hsz hen
/- The next field, whichever it is. -/
theorem next_field {ops : Array Oper} {rest : List Oper} {o : Oper} {a : Act} {Q : Exit → Act → World → Prop} (w : World) (hg : o.guard = none) (it : Operand) (hop : o.op = Op.next it false) (m r n : Nat) (D : D1) (left : Lit → Bool) (cnt : Nat) (h0 : ByteArray → F256)
    (hit : a.eval it = .pointer (some ⟨r, 0, none⟩)) (h : w.ranges Try.prog 9 bElem m r n D left cnt) (ha : AgB D h0)
    (hDone : (∀ l, left l = false) → wpList Try.prog ops Q rest (a.put o.dst (.tuple #[.bool false])) w)
    (hMore : ∀ (s : ByteArray) (F : F256) (w' : World) (cnt' : Nat), h0 s = F → s.size ≤ maxLen → left (kl s) = true → w'.ranges Try.prog 9 bElem m r n D (fun z => left z && !z.sameKey (kl s)) cnt' → cnt' < cnt →
      w.grownBy w' (some r) → w'.heap.size = w.heap.size → (Instr.entry (.pointer (some ⟨r, 0, none⟩))).run Try.prog w' = .ok (.tuple #[.string s, B4 F]) w' → wpList Try.prog ops Q rest (a.put o.dst (.tuple #[.bool true, .string s, B4 F])) w') :
    wpList Try.prog ops Q (o :: rest) a w := by
  refine wpList_next_ranges w hg it hop 9 law9 bElem Value.string (fun F => B4 F) (fun key l hkey => by obtain ⟨s, rfl, _⟩ := key9_inv hkey; exact ⟨s, rfl⟩) (fun v y hv => by
    obtain ⟨F, rfl, _⟩ := bElem_inv hv
    exact ⟨F, rfl⟩) m r n D left cnt hit h (fun _ h0 => hDone h0) (fun s F l z w' cnt' hkey hlk hv hat hrg hlt hgr hsz hen => ?_)
  obtain ⟨s', es, rfl, hsz'⟩ := key9_inv hkey
  cases es
  have e := hat (dB 0)
  rw [ha s] at e
  obtain ⟨G, h3, rfl⟩ := bElem_inv hv
  have hFG := B4_inj h3
  subst hFG
  exact hMore s F w' cnt' (dB_inj e) hsz' hlk hrg hlt hgr hsz hen
end Go.Proofs.Ytmkilckoeaekkaa
