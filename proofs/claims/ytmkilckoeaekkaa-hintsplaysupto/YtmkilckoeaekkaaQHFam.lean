/-
  Some indexes side by side, above a world that stays.
-/
import Derived.Test.YtmkilckoeaekkaaQHShown2
namespace Go.Proofs.Ytmkilckoeaekkaa
open Go.RowKit Go.Sort Go.Maps Go.Shelf

structure It where
  M : Nat
  b : Nat
  x : Ix
def Fx (w0 : World) (l : List It) (w : World) : Prop := ∃ Ts : Nat → Nat → Prop, (∀ (j : Nat) e, l[j]? = some e → Hx w0.heap.size e.M w e.b e.x (Ts j)) ∧ (∀ (i j : Nat), i ≠ j → i < l.length → j < l.length → ∀ k, Ts i k → ¬ Ts j k) ∧ Below w0.heap.size w0 w
theorem Fx.on {w0 w w' : World} {l : List It} (h : Fx w0 l w) (hb : Below w.heap.size w w') : Fx w0 l w' := by
  obtain ⟨Ts, h1, h2, h3⟩ := h
  exact ⟨Ts, fun j e hj => (h1 j e hj).on hb, h2, h3.trans (hb.mono h3.size)⟩
theorem Fx.get {w0 w : World} {l : List It} (h : Fx w0 l w) {i : Nat} {e : It} (hi : l[i]? = some e) : ∃ T, Hx w0.heap.size e.M w e.b e.x T := let ⟨_, h1, _⟩ := h; ⟨_, h1 i e hi⟩
theorem Fx.bel {w0 w : World} {l : List It} (h : Fx w0 l w) : Below w0.heap.size w0 w := let ⟨_, _, _, h3⟩ := h; h3
theorem Fx.start (w : World) : Fx w [] w := ⟨fun _ _ => False, fun j e hj => by simp at hj, fun i j _ hi => by simp at hi, Below.refl _ _⟩
theorem Fx.kpC {w0 w w' : World} {l : List It} (h : Fx w0 l w) {g : Nat} {c : Array Value} {t : TypeId} {fz : Nat × Nat} (hk : Kp (fun k => k = g) w w') (hg : w.heap[g]? = some (.cells c t fz)) (ht : t ≠ 68) (hw : w0.heap.size ≤ g) : Fx w0 l w' := by
  obtain ⟨Ts, h1, h2, h3⟩ := h
  exact ⟨Ts, fun j e hj => (h1 j e hj).kp hk (fun k hT e => by subst e; exact (h1 j _ hj).not_cells hg ht hT), h2, h3.trans (hk.below h3.size (fun k e => by omega))⟩
theorem Fx.turn {w0 w w' : World} {l : List It} {Ts : Nat → Nat → Prop} (h1 : ∀ (j : Nat) e, l[j]? = some e → Hx w0.heap.size e.M w e.b e.x (Ts j)) (h2 : ∀ (i j : Nat), i ≠ j → i < l.length → j < l.length → ∀ k, Ts i k → ¬ Ts j k) (h3 : Below w0.heap.size w0 w)
    {i : Nat} {e e' : It} {T' : Nat → Prop} (hi : l[i]? = some e) (hx : Hx w0.heap.size e'.M w' e'.b e'.x T') (ht : ∀ k, T' k → Ts i k ∨ w.heap.size ≤ k) (hk : Kp (Ts i) w w') : Fx w0 (l.set i e') w' := by
  have hil := (List.getElem?_eq_some_iff.1 hi).1
  have hlt : ∀ (j : Nat), j < l.length → ∀ k, Ts j k → k < w.heap.size := fun j hj => (h1 j _ (List.getElem?_eq_getElem hj)).T_lt
  refine ⟨fun j => if j = i then T' else Ts j, fun j f hj => ?_, fun a c hne ha hc k => ?_, h3.trans (hk.below h3.size (h1 i e hi).T_ge)⟩
  · by_cases ej : j = i
    · subst ej
      rw [List.getElem?_set_self hil] at hj
      cases hj
      show Hx _ _ _ _ _ (if j = j then T' else Ts j)
      rw [if_pos rfl]; exact hx
    · rw [List.getElem?_set_ne (fun h => ej h.symm)] at hj
      show Hx _ _ _ _ _ (if j = i then T' else Ts j)
      rw [if_neg ej]
      have hjl := (List.getElem?_eq_some_iff.1 hj).1
      exact (h1 j f hj).kp hk (fun k h => h2 j i ej hjl hil k h)
  · rw [List.length_set] at ha hc
    show (if a = i then T' else Ts a) k → ¬ (if c = i then T' else Ts c) k
    by_cases ea : a = i
    · have ec : c ≠ i := fun h => hne (ea.trans h.symm)
      rw [if_pos ea, if_neg ec]
      intro hT hc'
      rcases ht k hT with h | h
      · exact h2 i c (fun h => ec h.symm) hil hc k h hc'
      · have := hlt c hc k hc'; omega
    · rw [if_neg ea]
      by_cases ec : c = i
      · rw [if_pos ec]
        intro ha' hT
        rcases ht k hT with h | h
        · exact h2 a i ea ha hil k ha' h
        · have := hlt a ha k ha'; omega
      · rw [if_neg ec]; exact h2 a c hne ha hc k
theorem Fx.grow {w0 w w' : World} {l : List It} (h : Fx w0 l w) {e : It} {T' : Nat → Prop} (hx : Hx w.heap.size e.M w' e.b e.x T') (hb : Below w.heap.size w w') : Fx w0 (l ++ [e]) w' := by
  obtain ⟨Ts, h1, h2, h3⟩ := h
  have hlt : ∀ (j : Nat), j < l.length → ∀ k, Ts j k → k < w.heap.size := fun j hj => (h1 j _ (List.getElem?_eq_getElem hj)).T_lt
  have hge := hx.T_ge
  refine ⟨fun j => if j < l.length then Ts j else T', fun j f hj => ?_, fun a c hne ha hc k => ?_, h3.trans (hb.mono h3.size)⟩
  · by_cases ej : j < l.length
    · rw [List.getElem?_append_left ej] at hj
      show Hx _ _ _ _ _ (if j < l.length then Ts j else T')
      rw [if_pos ej]
      exact (h1 j f hj).on hb
    · have : j = l.length := by have := (List.getElem?_eq_some_iff.1 hj).1; simp at this; omega
      subst this
      rw [List.getElem?_append_right (Nat.le_refl _)] at hj
      simp at hj
      subst hj
      show Hx _ _ _ _ _ (if l.length < l.length then Ts l.length else T')
      rw [if_neg ej]
      exact hx.le h3.size
  · simp at ha hc
    show (if a < l.length then Ts a else T') k → ¬ (if c < l.length then Ts c else T') k
    by_cases ea : a < l.length
    · rw [if_pos ea]
      by_cases ec : c < l.length
      · rw [if_pos ec]; exact h2 a c hne ea ec k
      · rw [if_neg ec]; intro h1' h2'; have := hlt a ea k h1'; have := hge k h2'; omega
    · rw [if_neg ea]
      by_cases ec : c < l.length
      · rw [if_pos ec]; intro h1' h2'; have := hlt c ec k h2'; have := hge k h1'; omega
      · omega
/- Blocks of cells that are no index's stay. -/
def Kc (w w' : World) : Prop := ∀ (g : Nat) (c : Array Value) (t : TypeId) (fz : Nat × Nat), w.heap[g]? = some (.cells c t fz) → t ≠ 68 → w'.heap[g]? = some (.cells c t fz)
theorem Kc.of {w w' : World} (h : Below w.heap.size w w') : Kc w w' := fun _ _ _ _ hg _ => block_on hg h
theorem Kc.trans {a b c : World} (h : Kc a b) (k : Kc b c) : Kc a c := fun g x t fz hg ht => k g x t fz (h g x t fz hg ht) ht
theorem Hx.kc {B M : Nat} {w w' : World} {b : Nat} {x : Ix} {T : Nat → Prop} (h : Hx B M w b x T) (hk : Kp T w w') : Kc w w' := fun _ _ _ _ hg ht => hk.blk hg (h.not_cells hg ht)
theorem fx_new {w0 w : World} {l : List It} (h : Fx w0 l w) : Calls Try.prog 7 #[] w fun e w' => ∃ b, e = .returned (dp b) ∧ Fx w0 (l ++ [⟨0, b, Ix.none⟩]) w' ∧ Below w.heap.size w w' := by
  refine (new_any (Nat.le_refl w.heap.size)).mono ?_
  rintro e w' ⟨b, rfl, hk, hbe, hb⟩
  exact ⟨b, rfl, h.grow (e := ⟨0, b, Ix.none⟩) (Hx.made hk) hb, hb⟩
theorem fx_add {w0 w w1 w2 : World} {l : List It} {i M b : Nat} {x : Ix} {s : ByteArray} {ks vs pk pv : Value} (h : Fx w0 l w) (hi : l[i]? = some ⟨M, b, x⟩) (hM : M < 1000) (hs : s.size ≤ 562949953421312) (hb1 : Below w.heap.size w w1) (hb2 : Below w1.heap.size w1 w2)
    (h1 : SlAt (Fr w w1) Cl.cells 2 w1 ks [hostC]) (h2 : SlAt (Fr w w1) Cl.cells 2 w1 vs [nC]) (h3 : SlAt (Fr w1 w2) Vl.cells 11 w2 pk [strV s]) (h4 : SlAt (Fr w1 w2) Vl.cells 11 w2 pv [intV]) :
    Calls Try.prog 9 #[dp b, Sc loadB ks vs, Po loadB pk 0 pv] w2 fun e w' => e = .returned (.tuple #[]) ∧ Fx w0 (l.set i ⟨M + 3, b, addH x s⟩) w' ∧ Kc w w' ∧ Below w0.heap.size w w' := by
  obtain ⟨Ts, f1, f2, f3⟩ := h
  refine (addH_any (f1 i _ hi) f3.size hM hs hb1 hb2 h1 h2 h3 h4).mono ?_
  rintro e w' ⟨rfl, T', hx', ht', hk'⟩
  exact ⟨rfl, Fx.turn f1 f2 f3 hi (e' := ⟨M + 3, b, addH x s⟩) hx' ht' hk', (f1 i _ hi).kc hk', hk'.below f3.size (f1 i _ hi).T_ge⟩
theorem fx_join {w0 w : World} {l : List It} {i j M b N c : Nat} {x y : Ix} (h : Fx w0 l w) (hi : l[i]? = some ⟨M, b, x⟩) (hj : l[j]? = some ⟨N, c, y⟩) (hne : i ≠ j) (hM : M + N + 1 < maxLen) :
    Calls Try.prog 11 #[dp b, dp c] w fun e w' => e = .returned (.tuple #[]) ∧ Fx w0 (l.set i ⟨M + N, b, x.join y⟩) w' ∧ Kc w w' ∧ Below w0.heap.size w w' := by
  obtain ⟨Ts, f1, f2, f3⟩ := h
  refine (joinX_any (f1 i _ hi) (f1 j _ hj) (f2 i j hne (List.getElem?_eq_some_iff.1 hi).1 (List.getElem?_eq_some_iff.1 hj).1) f3.size hM).mono ?_
  rintro e w' ⟨rfl, T', hx', ht', hk'⟩
  exact ⟨rfl, Fx.turn f1 f2 f3 hi (e' := ⟨M + N, b, x.join y⟩) hx' ht' hk', (f1 i _ hi).kc hk', hk'.below f3.size (f1 i _ hi).T_ge⟩
theorem fx_clone {w0 w : World} {l : List It} {i M b : Nat} {x : Ix} (h : Fx w0 l w) (hi : l[i]? = some ⟨M, b, x⟩) (hM : M + 1 < maxLen) :
    Calls Try.prog 13 #[dp b] w fun e w' => ∃ b', e = .returned (dp b') ∧ Fx w0 (l ++ [⟨M, b', x⟩]) w' ∧ Below w.heap.size w w' := by
  obtain ⟨T, hx⟩ := h.get hi
  refine (clone_any hx hM).mono ?_
  rintro e w' ⟨b', T', rfl, hx', hb⟩
  exact ⟨b', rfl, h.grow (e := ⟨M, b', x⟩) hx' hb, hb⟩
theorem fx_might {w0 w : World} {l : List It} {i M b : Nat} {x : Ix} {Q : Nat → Prop} {v : Value} {ns : List (Nd × List Int)} {nm : ByteArray} {k : Int} {t : Bool} (h : Fx w0 l w) (hi : l[i]? = some ⟨M, b, x⟩) (hq : Qn Q w v ns) (hn : nm.size ≤ maxLen) (hk : -9223372036854775808 ≤ k ∧ k ≤ 9223372036854775807) (ht : might KK x nm (qs ns) k = t) :
    Calls Try.prog 18 #[dp b, .string nm, .agg #[v], .int .i64 k] w fun e w' => e = .returned (.bool t) ∧ Fx w0 l w' ∧ Below w.heap.size w w' := by
  obtain ⟨T, hx⟩ := h.get hi
  refine (Might_any hx hq hn hk).mono ?_
  rintro e w' ⟨rfl, hb⟩
  exact ⟨by rw [ht], h.on hb, hb⟩
theorem fx_seen {w0 w : World} {l : List It} {i M b : Nat} {x : Ix} {nm : ByteArray} {t : Bool} (h : Fx w0 l w) (hi : l[i]? = some ⟨M, b, x⟩) (hn : nm.size ≤ maxLen) (ht : x.seen nm = t) : Calls Try.prog 14 #[dp b, .string nm] w fun e w' => e = .returned (.bool t) ∧ w' = w := by
  obtain ⟨T, hx⟩ := h.get hi
  rw [← ht]; exact seen_any hx hn
theorem fx_bits {w0 w : World} {l : List It} {i M b : Nat} {x : Ix} {nm fd : ByteArray} {F : F256} (h : Fx w0 l w) (hi : l[i]? = some ⟨M, b, x⟩) (hn : nm.size ≤ maxLen) (hf : fd.size ≤ maxLen) (ht : x.bits nm fd = F) : Calls Try.prog 16 #[dp b, .string nm, .string fd] w fun e w' => e = .returned (B4 F) ∧ Fx w0 l w' ∧ Below w.heap.size w w' := by
  obtain ⟨T, hx⟩ := h.get hi
  refine (bits_any hx hn hf).mono ?_
  rintro e w' ⟨rfl, hb⟩
  exact ⟨by rw [ht], h.on hb, hb⟩
/- Hosts, one by one. -/
def addHs (x : Ix) (l : List ByteArray) : Ix := l.foldl addH x
theorem addHs_take {x : Ix} {l : List ByteArray} {k : Nat} {s : ByteArray} (h : l[k]? = some s) : addHs x (l.take (k + 1)) = addH (addHs x (l.take k)) s := by
  unfold addHs; rw [List.take_add_one, h]; simp
def str1 (s : ByteArray) : List Value := [.string s]
theorem addH_seen (x : Ix) (s n : ByteArray) : (addH x s).seen n = (x.seen n || decide (n = loadB)) := rfl
theorem addHs_seen (l : List ByteArray) : ∀ x : Ix, (addHs x l).seen loadB = (x.seen loadB || decide (0 < l.length)) := by
  induction l with
  | nil => intro x; simp [addHs]
  | cons a r ih =>
    intro x
    show (addHs (addH x a) r).seen loadB = _
    rw [ih, addH_seen]
    simp
end Go.Proofs.Ytmkilckoeaekkaa
