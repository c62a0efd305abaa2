/-
  How an index lies in memory: its block, its map of names, a map of fields for each name; and what stays.
-/
import Derived.Test.YtmkilckoeaekkaaQHMath
import Derived.Test.YtmkilckoeaekkaaQWh
import Derived.Maps.OwnSet
import Derived.Maps.RangeWalk
import Derived.Maps.Ext
import Derived.StringKeys
namespace Go.Proofs.Ytmkilckoeaekkaa
open Go.RowKit Go.Sort Go.Maps

/- What was there stays, but for the blocks of which T holds. -/
structure Kp (T : Nat → Prop) (w w' : World) : Prop where
  os : w'.os = w.os
  tape : w'.tape = w.tape
  output : w'.output = w.output
  size : w.heap.size ≤ w'.heap.size
  block : ∀ k, k < w.heap.size → ¬ T k → w'.heap[k]? = w.heap[k]?
theorem Kp.refl (T : Nat → Prop) (w : World) : Kp T w w := ⟨rfl, rfl, rfl, Nat.le_refl _, fun _ _ _ => rfl⟩
theorem Kp.of {T : Nat → Prop} {w w' : World} (h : Below w.heap.size w w') : Kp T w w' := ⟨h.os, h.tape, h.output, h.size, fun k hk _ => h.block k hk⟩
theorem Kp.below {T : Nat → Prop} {w w' : World} {B : Nat} (h : Kp T w w') (hB : B ≤ w.heap.size) (hT : ∀ k, T k → B ≤ k) : Below B w w' :=
  ⟨h.os, h.tape, h.output, h.size, fun k hk => h.block k (Nat.lt_of_lt_of_le hk hB) (fun t => by have := hT k t; omega)⟩
theorem Kp.trans {T : Nat → Prop} {a b c : World} (h : Kp T a b) (k : Kp T b c) : Kp T a c :=
  ⟨k.os.trans h.os, k.tape.trans h.tape, k.output.trans h.output, Nat.le_trans h.size k.size, fun i hi ht => (k.block i (Nat.lt_of_lt_of_le hi h.size) ht).trans (h.block i hi ht)⟩
theorem Kp.trans' {T T' : Nat → Prop} {a b c : World} (h : Kp T a b) (k : Kp T' b c) (ht : ∀ i, i < a.heap.size → T' i → T i) : Kp T a c :=
  ⟨k.os.trans h.os, k.tape.trans h.tape, k.output.trans h.output, Nat.le_trans h.size k.size, fun i hi hn => (k.block i (Nat.lt_of_lt_of_le hi h.size) (fun x => hn (ht i hi x))).trans (h.block i hi hn)⟩
theorem Kp.imp {T T' : Nat → Prop} {a b : World} (h : Kp T a b) (ht : ∀ i, i < a.heap.size → T i → T' i) : Kp T' a b :=
  ⟨h.os, h.tape, h.output, h.size, fun i hi hn => h.block i hi (fun x => hn (ht i hi x))⟩
theorem Kp.grown {T : Nat → Prop} {w w' : World} {row : Option Nat} (hg : w.grownBy w' row) (hr : ∀ k, row = some k → T k) : Kp T w w' :=
  ⟨hg.os, hg.tape, hg.output, hg.size, fun k hk ht => hg.block k hk (fun e => ht (hr k e.symm))⟩
theorem Kp.set {T : Nat → Prop} {w : World} {b i : Nat} (hT : T b) (u : Value) : Kp T w (w.setCell ⟨b, i, none⟩ u) :=
  ⟨rfl, rfl, rfl, by simp [World.setCell], fun k _ ht => Below.heap_setCell _ _ _ _ (fun e => ht (by rw [e]; exact hT))⟩
theorem Kp.alloc (T : Nat → Prop) (w : World) (o : Obj) : Kp T w (w.alloc o) := Kp.of ((Below.refl _ _).alloc (Nat.le_refl _) o)
theorem Kp.drew (T : Nat → Prop) (w : World) : Kp T w w.drew := Kp.of (Below.refl _ _).drew
theorem Kp.blk {T : Nat → Prop} {w w' : World} {k : Nat} {o : Obj} (h : Kp T w w') (hk : w.heap[k]? = some o) (ht : ¬ T k) : w'.heap[k]? = some o := (h.block k (lt_of_block hk) ht).trans hk
theorem Kp.cell {T : Nat → Prop} {w w' : World} {k o : Nat} {v : Value} (h : Kp T w w') (hk : w.cell? ⟨k, o, none⟩ = some v) (ht : ¬ T k) : w'.cell? ⟨k, o, none⟩ = some v :=
  (World.cell?_of_block (a := ⟨k, o, none⟩) (h.block k (block_lt_of_cell hk) ht)).trans hk
abbrev D1 := DataW Unit
abbrev dp (b : Nat) : Value := .pointer (some ⟨b, 0, none⟩)
abbrev mp (m : Nat) : Value := .map (some m)
theorem law9 : Keyed Try.prog 9 := string_keyed Try.underlying9
abbrev kl (s : ByteArray) : Lit := .string s.data.toList
theorem kl_inj {s t : ByteArray} (h : kl s = kl t) : s = t := by
  injection h with h
  obtain ⟨⟨a⟩⟩ := s
  obtain ⟨⟨b⟩⟩ := t
  simp at h
  subst h; rfl
theorem key9 {s : ByteArray} (h : s.size ≤ maxLen) : keyOf Try.prog 9 (.string s) = some (kl s) := WideMaps.keyOf_string_mk Try.underlying9 h
theorem key9_inv {v : Value} {l : Lit} (h : keyOf Try.prog 9 v = some l) : ∃ s, v = .string s ∧ l = kl s ∧ s.size ≤ maxLen := by
  have h9 := Try.underlying9
  cases v <;> simp [keyOf, h9, mapKey] at h
  obtain ⟨h1, rfl⟩ := h
  exact ⟨_, rfl, rfl, h1⟩
theorem isKey (s : ByteArray) : WideAt.IsKeyLit (kl s) := trivial
theorem same_kl (s t : ByteArray) : (kl s).sameKey (kl t) = decide (s = t) := by
  by_cases e : s = t
  · subst e; simp [WideAt.sameKey_self (isKey s)]
  · rw [Maps.sameKey_ne (fun h => e (kl_inj h)), decide_eq_false e]
/- A fingerprint as an element; a map as an element. -/
def dB (F : F256) : D1 := .lit (.int .i64 (F.toNat : Int))
theorem dB_inj {F G : F256} (h : dB F = dB G) : F = G := by
  unfold dB at h
  simp only [DataW.lit.injEq, Lit.int.injEq, true_and] at h
  apply BitVec.eq_of_toNat_eq; omega
theorem B4_inj {F G : F256} (h : B4 F = B4 G) : F = G := by
  simp only [Value.agg.injEq, Array.mk.injEq, List.cons.injEq, Value.int.injEq, true_and, and_true] at h
  exact fw_ext (u_inj h.1) (u_inj h.2.1) (u_inj h.2.2.1) (u_inj h.2.2.2)
open Classical in
noncomputable def bElem (v : Value) : Option (D1 × List MemPlace) := if h : ∃ F, v = B4 F then some (dB h.choose, []) else none
theorem bElem_mk (F : F256) : bElem (B4 F) = some (dB F, []) := by
  have h : ∃ G, B4 F = B4 G := ⟨F, rfl⟩
  unfold bElem
  rw [dif_pos h, ← B4_inj h.choose_spec]
theorem bElem_inv {v : Value} {y : D1 × List MemPlace} (h : bElem v = some y) : ∃ F, v = B4 F ∧ y = (dB F, []) := by
  by_cases hv : ∃ F, v = B4 F
  · obtain ⟨F, rfl⟩ := hv
    rw [bElem_mk] at h; cases h
    exact ⟨F, rfl, rfl⟩
  · unfold bElem at h
    rw [dif_neg hv] at h; cases h
def dM (m : Int) : D1 := .lit (.int .i64 m)
def mElem : Value → Option (D1 × List MemPlace)
  | .map none => some (dM (-1), [])
  | .map (some m) => some (dM (m : Int), [])
  | _ => none
def mkM : Option Nat → Value
  | none => .map none
  | some m => mp m
theorem mElem_mk (m : Nat) : mElem (mp m) = some (dM (m : Int), []) := rfl
theorem mElem_inv {v : Value} {y : D1 × List MemPlace} (h : mElem v = some y) : (v = .map none ∧ y = (dM (-1), [])) ∨ ∃ m : Nat, v = mp m ∧ y = (dM (m : Int), []) := by
  unfold mElem at h
  split at h
  · cases h; exact .inl ⟨rfl, rfl⟩
  · cases h; exact .inr ⟨_, rfl, rfl⟩
  · cases h
theorem zero49 (w : World) : (zeroValue 49).run Try.prog w = .ok (B4 0) w := by kernel_rfl
theorem zero70 (w : World) : (zeroValue 70).run Try.prog w = .ok (.map none) w := by kernel_rfl
/- What the map of names holds; what a map of fields holds. -/
def atN (x : Ix) (f : ByteArray → Nat) (n : ByteArray) : Int := if x.seen n = true then (f n : Int) else -1
def AgN (D : D1) (x : Ix) (f : ByteArray → Nat) : Prop := ∀ n, Maps.has D (kl n) = x.seen n ∧ D.atKey (kl n) (dM (-1)) = dM (atN x f n)
def AgB (D : D1) (g : ByteArray → F256) : Prop := ∀ s, D.atKey (kl s) (dB 0) = dB (g s)
abbrev OwnB (w : World) (m C : Nat) (D : D1) : Prop := w.ownsMap Try.prog 9 bElem m C D
abbrev OwnN (w : World) (m C : Nat) (D : D1) : Prop := w.ownsMap Try.prog 9 mElem m C D
/- A map of fields. -/
def Fm (w : World) (m C : Nat) (g : ByteArray → F256) : Prop := ∃ D, OwnB w m C D ∧ AgB D g
theorem own_kp {T : Nat → Prop} {R : Value → Option (D1 × List MemPlace)} {w w' : World} {m n : Nat} {D : D1} (h : w.ownsMap Try.prog 9 R m n D) (hk : Kp T w w') (ht : ¬ T m) : w'.ownsMap Try.prog 9 R m n D := by
  obtain ⟨es, c, hb, r⟩ := h
  exact ⟨es, c, hk.blk hb ht, r⟩
theorem own_blk {R : Value → Option (D1 × List MemPlace)} {w : World} {m n : Nat} {D : D1} (h : w.ownsMap Try.prog 9 R m n D) : ∃ es c, w.heap[m]? = some (.map es c) := let ⟨es, c, hb, _⟩ := h; ⟨es, c, hb⟩
theorem Fm.kp {T : Nat → Prop} {w w' : World} {m C : Nat} {g : ByteArray → F256} (h : Fm w m C g) (hk : Kp T w w') (ht : ¬ T m) : Fm w' m C g := let ⟨D, h1, h2⟩ := h; ⟨D, own_kp h1 hk ht, h2⟩
theorem Fm.lt {w : World} {m C : Nat} {g : ByteArray → F256} (h : Fm w m C g) : m < w.heap.size := let ⟨_, h1, _⟩ := h; h1.lt
theorem Fm.blk {w : World} {m C : Nat} {g : ByteArray → F256} (h : Fm w m C g) : ∃ es c, w.heap[m]? = some (.map es c) := let ⟨_, h1, _⟩ := h; own_blk h1
theorem Fm.mono {w : World} {m C C' : Nat} {g : ByteArray → F256} (h : Fm w m C g) (hc : C ≤ C') : Fm w m C' g := let ⟨D, h1, h2⟩ := h; ⟨D, h1.mono hc, h2⟩
theorem Fm.made (w : World) : Fm (w.alloc (.map #[] 0)) w.heap.size 0 (fun _ => 0) := ⟨.map [], World.ownsMap_made _ _ _ _, fun _ => rfl⟩
/- m[field]. -/
theorem Fm.look {w : World} {m C : Nat} {g : ByteArray → F256} (h : Fm w m C g) {s : ByteArray} (hs : s.size ≤ maxLen) : (Instr.lookup 70 (mp m) (.string s) false).run Try.prog w = .ok (B4 (g s)) w := by
  obtain ⟨D, hD, hA⟩ := h
  obtain ⟨v, ps, hrun, hv⟩ := hD.lookup (t := 70) (e := 49) law9 Try.underlying70 (zero49 w) (bElem_mk 0) (key9 hs)
  rw [hA s] at hv
  obtain ⟨F, rfl, hy⟩ := bElem_inv hv
  rw [hrun, dB_inj (congrArg Prod.fst hy)]
def setG (g : ByteArray → F256) (s : ByteArray) (F : F256) : ByteArray → F256 := fun t => if t = s then F else g t
theorem AgB.put {D : D1} {g : ByteArray → F256} (h : AgB D g) (hm : IsMap D) (s : ByteArray) (F : F256) : AgB (D.put (kl s) (dB F)) (setG g s F) := fun t => by
  unfold setG
  by_cases e : t = s
  · subst e
    rw [atKey_put_same hm (isKey _), if_pos rfl]
  · rw [atKey_put_other (fun h => e (kl_inj h)), h t, if_neg e]
/- m[field] = F. -/
theorem Fm.put {w : World} {m C : Nat} {g : ByteArray → F256} (h : Fm w m C g) (hC : C < maxLen) {s : ByteArray} (hs : s.size ≤ maxLen) (F : F256) :
    ∃ w', (Instr.mapUpdate 70 (mp m) (.string s) (B4 F)).run Try.prog w = .ok () w' ∧ Fm w' m (C + 1) (setG g s F) ∧ w.grownBy w' (some m) := by
  obtain ⟨D, hD, hA⟩ := h
  obtain ⟨w', h1, h2, h3⟩ := hD.update (t := 70) (e := 49) law9 Try.underlying70 hC (key9 hs) (bElem_mk F)
  exact ⟨w', h1, ⟨_, h2, hA.put hD.isMap s F⟩, h3⟩
/- An index: where it lies, what it tells; at most N names, at most c n fields of a name n. -/
structure Hk (B : Nat) (w : World) (b : Nat) (mo : Option Nat) (f c : ByteArray → Nat) (N : Nat) (x : Ix) : Prop where
  bB : B ≤ b
  blk : w.heap[b]? = some (.cells #[mkM mo] 68)
  mB : ∀ m, mo = some m → B ≤ m
  nil : mo = none → ∀ n, x.seen n = false
  map : ∀ m, mo = some m → ∃ D, OwnN w m N D ∧ AgN D x f
  inn : ∀ n, x.seen n = true → B ≤ f n ∧ Fm w (f n) (c n) (x.bits n)
  out : ∀ n, x.seen n = false → ∀ g, x.bits n g = 0
  inj : ∀ n n', x.seen n = true → x.seen n' = true → f n = f n' → n = n'
  off : ∀ n m, x.seen n = true → mo = some m → f n ≠ m
def Th (b : Nat) (mo : Option Nat) (f : ByteArray → Nat) (x : Ix) (k : Nat) : Prop := k = b ∨ mo = some k ∨ ∃ n, x.seen n = true ∧ k = f n
theorem Hk.kp {B : Nat} {w w' : World} {b : Nat} {mo : Option Nat} {f c : ByteArray → Nat} {N : Nat} {x : Ix} {T : Nat → Prop} (h : Hk B w b mo f c N x) (hk : Kp T w w') (ht : ∀ k, Th b mo f x k → ¬ T k) : Hk B w' b mo f c N x :=
  ⟨h.bB, hk.blk h.blk (ht b (.inl rfl)), h.mB, h.nil, fun m hm => let ⟨D, h1, h2⟩ := h.map m hm; ⟨D, own_kp h1 hk (ht m (.inr (.inl hm))), h2⟩,
    fun n hn => ⟨(h.inn n hn).1, (h.inn n hn).2.kp hk (ht _ (.inr (.inr ⟨n, hn, rfl⟩)))⟩, h.out, h.inj, h.off⟩
theorem Hk.on {B : Nat} {w w' : World} {b : Nat} {mo : Option Nat} {f c : ByteArray → Nat} {N : Nat} {x : Ix} (h : Hk B w b mo f c N x) (hb : Below w.heap.size w w') : Hk B w' b mo f c N x :=
  h.kp (T := fun _ => False) (Kp.of hb) (fun _ _ => id)
theorem Hk.le {B B' : Nat} {w : World} {b : Nat} {mo : Option Nat} {f c : ByteArray → Nat} {N : Nat} {x : Ix} (h : Hk B w b mo f c N x) (hb : B' ≤ B) : Hk B' w b mo f c N x :=
  ⟨Nat.le_trans hb h.bB, h.blk, fun m hm => Nat.le_trans hb (h.mB m hm), h.nil, h.map, fun n hn => ⟨Nat.le_trans hb (h.inn n hn).1, (h.inn n hn).2⟩, h.out, h.inj, h.off⟩
theorem Hk.T_ge {B : Nat} {w : World} {b : Nat} {mo : Option Nat} {f c : ByteArray → Nat} {N : Nat} {x : Ix} (h : Hk B w b mo f c N x) : ∀ k, Th b mo f x k → B ≤ k := by
  rintro k (rfl | hk | ⟨n, hn, rfl⟩)
  · exact h.bB
  · exact h.mB k hk
  · exact (h.inn n hn).1
theorem Hk.T_lt {B : Nat} {w : World} {b : Nat} {mo : Option Nat} {f c : ByteArray → Nat} {N : Nat} {x : Ix} (h : Hk B w b mo f c N x) : ∀ k, Th b mo f x k → k < w.heap.size := by
  rintro k (rfl | hk | ⟨n, hn, rfl⟩)
  · exact lt_of_block h.blk
  · obtain ⟨D, h1, _⟩ := h.map k hk; exact h1.lt
  · exact (h.inn n hn).2.lt
theorem Hk.T_kind {B : Nat} {w : World} {b : Nat} {mo : Option Nat} {f c : ByteArray → Nat} {N : Nat} {x : Ix} (h : Hk B w b mo f c N x) : ∀ k, Th b mo f x k → (∃ cs, w.heap[k]? = some (.cells cs 68)) ∨ ∃ es c, w.heap[k]? = some (.map es c) := by
  rintro k (rfl | hk | ⟨n, hn, rfl⟩)
  · exact .inl ⟨_, h.blk⟩
  · obtain ⟨D, h1, _⟩ := h.map k hk; exact .inr (own_blk h1)
  · exact .inr (h.inn n hn).2.blk
theorem Hk.ne {B : Nat} {w : World} {b : Nat} {mo : Option Nat} {f c : ByteArray → Nat} {N : Nat} {x : Ix} (h : Hk B w b mo f c N x) : mo ≠ some b ∧ ∀ n, x.seen n = true → f n ≠ b := by
  refine ⟨fun e => ?_, fun n hn e => ?_⟩
  · obtain ⟨D, h1, _⟩ := h.map b e
    obtain ⟨es, c, hb⟩ := own_blk h1
    rw [h.blk] at hb; cases hb
  · obtain ⟨es, c, hb⟩ := (h.inn n hn).2.blk
    rw [e, h.blk] at hb; cases hb
theorem Hk.made (B : Nat) (w : World) (hB : B ≤ w.heap.size) : Hk B (w.alloc (.cells #[.map none] 68)) w.heap.size none (fun _ => 0) (fun _ => 0) 0 Ix.none :=
  ⟨hB, alloc_block w _, fun _ e => (by cases e), fun _ _ => rfl, fun _ e => (by cases e), fun _ e => (by cases e), fun _ _ _ => rfl, fun _ _ e => (by cases e), fun _ _ e => (by cases e)⟩
theorem Hk.cell {B : Nat} {w : World} {b : Nat} {mo : Option Nat} {f c : ByteArray → Nat} {N : Nat} {x : Ix} (h : Hk B w b mo f c N x) : ∀ o, w.cell? ⟨b, o, none⟩ = #[mkM mo][o]? := block_cell h.blk
/- names[name]. -/
theorem Hk.look {B : Nat} {w : World} {b m : Nat} {f c : ByteArray → Nat} {N : Nat} {x : Ix} (h : Hk B w b (some m) f c N x) {s : ByteArray} (hs : s.size ≤ maxLen) :
    (Instr.lookup 66 (mp m) (.string s) false).run Try.prog w = .ok (if x.seen s = true then mp (f s) else .map none) w := by
  obtain ⟨D, hD, hA⟩ := h.map m rfl
  obtain ⟨v, ps, hrun, hv⟩ := hD.lookup (t := 66) (e := 70) law9 Try.underlying66 (zero70 w) (zd := dM (-1)) (zp := []) rfl (key9 hs)
  rw [(hA s).2] at hv
  rw [hrun]
  unfold atN at hv
  rcases mElem_inv hv with ⟨rfl, hy⟩ | ⟨m', rfl, hy⟩
  · simp only [Prod.mk.injEq, dM, DataW.lit.injEq, Lit.int.injEq, true_and] at hy
    split at hy
    · omega
    · rename_i hn; rw [if_neg hn]
  · simp only [Prod.mk.injEq, dM, DataW.lit.injEq, Lit.int.injEq, true_and] at hy
    split at hy
    · rename_i hn
      rw [if_pos hn]
      have : f s = m' := by omega
      rw [this]
    · omega
theorem Hk.lookOk {B : Nat} {w : World} {b m : Nat} {f c : ByteArray → Nat} {N : Nat} {x : Ix} (h : Hk B w b (some m) f c N x) {s : ByteArray} (hs : s.size ≤ maxLen) :
    (Instr.lookup 66 (mp m) (.string s) true).run Try.prog w = .ok (.tuple #[if x.seen s = true then mp (f s) else .map none, .bool (x.seen s)]) w := by
  obtain ⟨D, hD, hA⟩ := h.map m rfl
  obtain ⟨v, ps, hrun, hv⟩ := hD.look_ok (t := 66) (e := 70) law9 Try.underlying66 (zero70 w) (zd := dM (-1)) (zp := []) rfl (key9 hs)
  rw [(hA s).2] at hv
  rw [hrun, (hA s).1]
  unfold atN at hv
  rcases mElem_inv hv with ⟨rfl, hy⟩ | ⟨m', rfl, hy⟩
  · simp only [Prod.mk.injEq, dM, DataW.lit.injEq, Lit.int.injEq, true_and] at hy
    split at hy
    · omega
    · rename_i hn; rw [if_neg hn]
  · simp only [Prod.mk.injEq, dM, DataW.lit.injEq, Lit.int.injEq, true_and] at hy
    split at hy
    · rename_i hn
      rw [if_pos hn]
      have : f s = m' := by omega
      rw [this]
    · omega
theorem look_none {w : World} {s : ByteArray} (c : Bool) (hs : s.size ≤ maxLen) : (Instr.lookup 66 (.map none) (.string s) c).run Try.prog w = .ok (if c then .tuple #[.map none, .bool false] else .map none) w :=
  Maps.look_nil c law9 Try.underlying66 (zero70 w) (key9 hs)
theorem lookB_none {w : World} {s : ByteArray} (hs : s.size ≤ maxLen) : (Instr.lookup 70 (.map none) (.string s) false).run Try.prog w = .ok (B4 0) w :=
  Maps.look_nil false law9 Try.underlying70 (zero49 w) (key9 hs)
/- What a name's map of fields is set to. -/
def Ix.put (x : Ix) (n : ByteArray) (g : ByteArray → F256) : Ix := ⟨x.seen, fun m => if m = n then g else x.bits m⟩
theorem Hk.inner {B : Nat} {w w' : World} {b : Nat} {mo : Option Nat} {f c : ByteArray → Nat} {N : Nat} {x : Ix} (h : Hk B w b mo f c N x) {n : ByteArray} (hn : x.seen n = true) {C : Nat} {g : ByteArray → F256} (hk : Kp (fun k => k = f n) w w') (hm : Fm w' (f n) C g) :
    Hk B w' b mo f (fun m => if m = n then C else c m) N (x.put n g) := by
  have hne := h.ne
  refine ⟨h.bB, hk.blk h.blk (fun e => hne.2 n hn e.symm), h.mB, h.nil, fun m e => ?_, fun m hs => ?_, fun m hs => ?_, h.inj, h.off⟩
  · obtain ⟨D, h1, h2⟩ := h.map m e
    exact ⟨D, own_kp h1 hk (fun e2 => h.off n m hn e e2.symm), h2⟩
  · refine ⟨(h.inn m hs).1, ?_⟩
    show Fm w' (f m) (if m = n then C else c m) (if m = n then g else x.bits m)
    by_cases e : m = n
    · subst e; rw [if_pos rfl, if_pos rfl]; exact hm
    · rw [if_neg e, if_neg e]
      exact (h.inn m hs).2.kp hk (fun e2 => e (h.inj m n hs hn e2))
  · show ∀ s, (if m = n then g else x.bits m) s = 0
    rw [if_neg (fun e => by subst e; rw [show (x.put m g).seen m = x.seen m from rfl, hn] at hs; cases hs)]
    exact h.out m hs
end Go.Proofs.Ytmkilckoeaekkaa
