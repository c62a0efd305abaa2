/-
  Two indexes of the program and two of the reference side by side, above a world that stays.
-/
import Derived.Test.YtmkilckoeaekkaaQHFam
import Derived.Test.YtmkilckoeaekkaaQRJoinX
import Derived.Test.YtmkilckoeaekkaaQRTie
import Derived.Test.YtmkilckoeaekkaaQRAny
namespace Go.Proofs.Ytmkilckoeaekkaa
open Go.RowKit Go.Sort Go.Maps Go.Shelf

/- M, N: bounds on the program's; bx, bo: its blocks; b1, b2: the reference's; l, r: the reference's entries. -/
def Pl (w0 : World) (M N bx bo b1 b2 : Nat) (x o : Ix) (l r : List En) (w : World) : Prop :=
  ∃ T U s1 s2, Hx w0.heap.size M w bx x T ∧ Hx w0.heap.size N w bo o U ∧ (∀ k, T k → ¬ U k) ∧ Rk w0.heap.size w b1 s1 l ∧ Rk w0.heap.size w b2 s2 r ∧ (∀ k, Tr b1 s1 k → ¬ Tr b2 s2 k) ∧ Below w0.heap.size w0 w
theorem Hx.not_rk {B M B' : Nat} {w : World} {b g : Nat} {x : Ix} {T : Nat → Prop} {sv : Value} {l : List En} (h : Hx B M w b x T) (hr : Rk B' w g sv l) : ∀ k, Tr g sv k → ¬ T k := fun k hk => by
  obtain ⟨cs, t, fz, hc, ht⟩ := hr.T_kind k hk
  exact h.not_cells hc (by rcases ht with rfl | rfl <;> decide)
theorem Pl.bel {w0 w : World} {M N bx bo b1 b2 : Nat} {x o : Ix} {l r : List En} (h : Pl w0 M N bx bo b1 b2 x o l r w) : Below w0.heap.size w0 w := by
  obtain ⟨_, _, _, _, _, _, _, _, _, _, h⟩ := h; exact h
theorem Pl.on {w0 w w' : World} {M N bx bo b1 b2 : Nat} {x o : Ix} {l r : List En} (h : Pl w0 M N bx bo b1 b2 x o l r w) (hb : Below w.heap.size w w') : Pl w0 M N bx bo b1 b2 x o l r w' := by
  obtain ⟨T, U, s1, s2, h1, h2, h3, h4, h5, h6, h7⟩ := h
  exact ⟨T, U, s1, s2, h1.on hb, h2.on hb, h3, h4.on hb, h5.on hb, h6, h7.trans (hb.mono h7.size)⟩
/- The first of the program's is turned. -/
theorem Pl.turnX {w0 w w' : World} {M M' N bx bo b1 b2 : Nat} {x x' o : Ix} {l r : List En} {T U : Nat → Prop} {s1 s2 : Value} (h1 : Hx w0.heap.size M w bx x T) (h2 : Hx w0.heap.size N w bo o U) (h3 : ∀ k, T k → ¬ U k) (h4 : Rk w0.heap.size w b1 s1 l) (h5 : Rk w0.heap.size w b2 s2 r) (h6 : ∀ k, Tr b1 s1 k → ¬ Tr b2 s2 k) (h7 : Below w0.heap.size w0 w)
    (hx : ∃ T', Hx w0.heap.size M' w' bx x' T' ∧ (∀ k, T' k → T k ∨ w.heap.size ≤ k) ∧ Kp T w w') : Pl w0 M' N bx bo b1 b2 x' o l r w' := by
  obtain ⟨T', a1, a2, a3⟩ := hx
  refine ⟨T', U, s1, s2, a1, h2.kp a3 (fun k hu ht => h3 k ht hu), fun k ht hu => ?_, h4.kp a3 (h1.not_rk h4), h5.kp a3 (h1.not_rk h5), h6, h7.trans (a3.below h7.size h1.T_ge)⟩
  rcases a2 k ht with h | h
  · exact h3 k h hu
  · have := h2.T_lt k hu; omega
theorem Pl.turnO {w0 w w' : World} {M N N' bx bo b1 b2 : Nat} {x o o' : Ix} {l r : List En} {T U : Nat → Prop} {s1 s2 : Value} (h1 : Hx w0.heap.size M w bx x T) (h2 : Hx w0.heap.size N w bo o U) (h3 : ∀ k, T k → ¬ U k) (h4 : Rk w0.heap.size w b1 s1 l) (h5 : Rk w0.heap.size w b2 s2 r) (h6 : ∀ k, Tr b1 s1 k → ¬ Tr b2 s2 k) (h7 : Below w0.heap.size w0 w)
    (hx : ∃ U', Hx w0.heap.size N' w' bo o' U' ∧ (∀ k, U' k → U k ∨ w.heap.size ≤ k) ∧ Kp U w w') : Pl w0 M N' bx bo b1 b2 x o' l r w' := by
  obtain ⟨U', a1, a2, a3⟩ := hx
  refine ⟨T, U', s1, s2, h1.kp a3 (fun k ht hu => h3 k ht hu), a1, fun k ht hu => ?_, h4.kp a3 (h2.not_rk h4), h5.kp a3 (h2.not_rk h5), h6, h7.trans (a3.below h7.size h2.T_ge)⟩
  rcases a2 k hu with h | h
  · exact h3 k ht h
  · have := h1.T_lt k ht; omega
theorem Pl.turnY {w0 w w' : World} {M N bx bo b1 b2 : Nat} {x o : Ix} {l l' r : List En} {T U : Nat → Prop} {s1 s2 : Value} (h1 : Hx w0.heap.size M w bx x T) (h2 : Hx w0.heap.size N w bo o U) (h3 : ∀ k, T k → ¬ U k) (h4 : Rk w0.heap.size w b1 s1 l) (h5 : Rk w0.heap.size w b2 s2 r) (h6 : ∀ k, Tr b1 s1 k → ¬ Tr b2 s2 k) (h7 : Below w0.heap.size w0 w)
    (hy : LayP w0.heap.size w b1 s1 l' w') : Pl w0 M N bx bo b1 b2 x o l' r w' := by
  obtain ⟨s', a1, a2, a3⟩ := hy
  refine ⟨T, U, s', s2, h1.kp a3 (fun k ht hr => h1.not_rk h4 k hr ht), h2.kp a3 (fun k ht hr => h2.not_rk h4 k hr ht), h3, a1, h5.kp a3 (fun k h g => h6 k g h), fun k ht hu => ?_, h7.trans (a3.below h7.size h4.T_ge)⟩
  rcases a2 k ht with h | h
  · exact h6 k h hu
  · have := h5.T_lt k hu; omega
theorem Pl.turnZ {w0 w w' : World} {M N bx bo b1 b2 : Nat} {x o : Ix} {l r r' : List En} {T U : Nat → Prop} {s1 s2 : Value} (h1 : Hx w0.heap.size M w bx x T) (h2 : Hx w0.heap.size N w bo o U) (h3 : ∀ k, T k → ¬ U k) (h4 : Rk w0.heap.size w b1 s1 l) (h5 : Rk w0.heap.size w b2 s2 r) (h6 : ∀ k, Tr b1 s1 k → ¬ Tr b2 s2 k) (h7 : Below w0.heap.size w0 w)
    (hy : LayP w0.heap.size w b2 s2 r' w') : Pl w0 M N bx bo b1 b2 x o l r' w' := by
  obtain ⟨s', a1, a2, a3⟩ := hy
  refine ⟨T, U, s1, s', h1.kp a3 (fun k ht hr => h1.not_rk h5 k hr ht), h2.kp a3 (fun k ht hr => h2.not_rk h5 k hr ht), h3, h4.kp a3 (fun k h g => h6 k h g), a1, fun k ht hu => ?_, h7.trans (a3.below h7.size h5.T_ge)⟩
  rcases a2 k hu with h | h
  · exact h6 k ht h
  · have := h4.T_lt k ht; omega
/- A schema and a point that lie below. -/
structure Ar (Q : Nat → Prop) (w : World) (ks vs pk pv : Value) (kc vc : List Cl) (kv vv : List Vl) : Prop where
  h1 : SlAt Q Cl.cells 2 w ks kc
  h2 : SlAt Q Vl.cells 11 w pk kv
  h3 : SlAt Q Cl.cells 2 w vs vc
  h4 : SlAt Q Vl.cells 11 w pv vv
  c1 : ∀ c ∈ kc, c.nm.size ≤ 562949953421312
  c3 : ∀ c ∈ vc, c.nm.size ≤ 562949953421312
  s2 : ∀ v ∈ kv, v.s.size ≤ 562949953421312
  s4 : ∀ v ∈ vv, v.s.size ≤ 562949953421312
theorem pl_addX {w0 w : World} {M N bx bo b1 b2 : Nat} {x o : Ix} {l r : List En} (h : Pl w0 M N bx bo b1 b2 x o l r w) {Q : Nat → Prop} (hQ : ∀ k, Q k → k < w0.heap.size) {nm sc : ByteArray} {t : Int} {ks vs pk pv : Value} {kc vc : List Cl} {kv vv : List Vl} (ha : Ar Q w ks vs pk pv kc vc kv vv) (hn : nm.size ≤ maxLen) (hM : M + kc.length + vc.length + 1 < maxLen) :
    Calls Try.prog 9 #[dp bx, Sc nm ks vs, Po sc pk t pv] w fun e w' => e = .returned (.tuple #[]) ∧ Pl w0 (M + kc.length + vc.length + 1) N bx bo b1 b2 (addX x nm kc kv vc vv) o l r w' := by
  obtain ⟨T, U, s1, s2, h1, h2, h3, h4, h5, h6, h7⟩ := h
  have hz := h7.size
  refine (add_any h1 hz (Q := Q) (fun k hk => ⟨fun hT => ?_, ?_⟩) hn ha.h1 ha.h2 ha.h3 ha.h4 hM (fun c hc => Nat.le_trans (ha.c1 c hc) (by decide)) (fun c hc => Nat.le_trans (ha.c3 c hc) (by decide)) ha.s2 ha.s4).mono ?_
  · have := hQ k hk; have := h1.T_ge k hT; omega
  · have := hQ k hk; omega
  · rintro e w' ⟨rfl, hx⟩
    exact ⟨rfl, Pl.turnX h1 h2 h3 h4 h5 h6 h7 hx⟩
theorem pl_addO {w0 w : World} {M N bx bo b1 b2 : Nat} {x o : Ix} {l r : List En} (h : Pl w0 M N bx bo b1 b2 x o l r w) {Q : Nat → Prop} (hQ : ∀ k, Q k → k < w0.heap.size) {nm sc : ByteArray} {t : Int} {ks vs pk pv : Value} {kc vc : List Cl} {kv vv : List Vl} (ha : Ar Q w ks vs pk pv kc vc kv vv) (hn : nm.size ≤ maxLen) (hM : N + kc.length + vc.length + 1 < maxLen) :
    Calls Try.prog 9 #[dp bo, Sc nm ks vs, Po sc pk t pv] w fun e w' => e = .returned (.tuple #[]) ∧ Pl w0 M (N + kc.length + vc.length + 1) bx bo b1 b2 x (addX o nm kc kv vc vv) l r w' := by
  obtain ⟨T, U, s1, s2, h1, h2, h3, h4, h5, h6, h7⟩ := h
  have hz := h7.size
  refine (add_any h2 hz (Q := Q) (fun k hk => ⟨fun hT => ?_, ?_⟩) hn ha.h1 ha.h2 ha.h3 ha.h4 hM (fun c hc => Nat.le_trans (ha.c1 c hc) (by decide)) (fun c hc => Nat.le_trans (ha.c3 c hc) (by decide)) ha.s2 ha.s4).mono ?_
  · have := hQ k hk; have := h2.T_ge k hT; omega
  · have := hQ k hk; omega
  · rintro e w' ⟨rfl, hx⟩
    exact ⟨rfl, Pl.turnO h1 h2 h3 h4 h5 h6 h7 hx⟩
theorem pl_addY {w0 w : World} {M N bx bo b1 b2 : Nat} {x o : Ix} {l r : List En} (h : Pl w0 M N bx bo b1 b2 x o l r w) {Q : Nat → Prop} (hQ : ∀ k, Q k → k < w0.heap.size) {nm sc : ByteArray} {t : Int} {ks vs pk pv : Value} {kc vc : List Cl} {kv vv : List Vl} (ha : Ar Q w ks vs pk pv kc vc kv vv) (hM : l.length + kc.length + vc.length + 1 ≤ 1000000000000) :
    Calls Try.prog 10 #[dp b1, Sc nm ks vs, Po sc pk t pv] w fun e w' => e = .returned (.tuple #[]) ∧ Pl w0 M N bx bo b1 b2 x o (addE nm kc kv vc vv l) r w' := by
  obtain ⟨T, U, s1, s2, h1, h2, h3, h4, h5, h6, h7⟩ := h
  have hz := h7.size
  refine (radd_any h4 hz (Q := Q) (fun k hk => ⟨fun hT => ?_, ?_⟩) ha.h1 ha.h2 ha.h3 ha.h4 hM ha.c1 ha.c3 ha.s2 ha.s4).mono ?_
  · have := hQ k hk; have := h4.T_ge k hT; omega
  · have := hQ k hk; omega
  · rintro e w' ⟨rfl, hx⟩
    exact ⟨rfl, Pl.turnY h1 h2 h3 h4 h5 h6 h7 hx⟩
theorem pl_addZ {w0 w : World} {M N bx bo b1 b2 : Nat} {x o : Ix} {l r : List En} (h : Pl w0 M N bx bo b1 b2 x o l r w) {Q : Nat → Prop} (hQ : ∀ k, Q k → k < w0.heap.size) {nm sc : ByteArray} {t : Int} {ks vs pk pv : Value} {kc vc : List Cl} {kv vv : List Vl} (ha : Ar Q w ks vs pk pv kc vc kv vv) (hM : r.length + kc.length + vc.length + 1 ≤ 1000000000000) :
    Calls Try.prog 10 #[dp b2, Sc nm ks vs, Po sc pk t pv] w fun e w' => e = .returned (.tuple #[]) ∧ Pl w0 M N bx bo b1 b2 x o l (addE nm kc kv vc vv r) w' := by
  obtain ⟨T, U, s1, s2, h1, h2, h3, h4, h5, h6, h7⟩ := h
  have hz := h7.size
  refine (radd_any h5 hz (Q := Q) (fun k hk => ⟨fun hT => ?_, ?_⟩) ha.h1 ha.h2 ha.h3 ha.h4 hM ha.c1 ha.c3 ha.s2 ha.s4).mono ?_
  · have := hQ k hk; have := h5.T_ge k hT; omega
  · have := hQ k hk; omega
  · rintro e w' ⟨rfl, hx⟩
    exact ⟨rfl, Pl.turnZ h1 h2 h3 h4 h5 h6 h7 hx⟩
theorem pl_join {w0 w : World} {M N bx bo b1 b2 : Nat} {x o : Ix} {l r : List En} (h : Pl w0 M N bx bo b1 b2 x o l r w) (hM : M + N + 1 < maxLen) :
    Calls Try.prog 11 #[dp bx, dp bo] w fun e w' => e = .returned (.tuple #[]) ∧ Pl w0 (M + N) N bx bo b1 b2 (x.join o) o l r w' := by
  obtain ⟨T, U, s1, s2, h1, h2, h3, h4, h5, h6, h7⟩ := h
  refine (joinX_any h1 h2 h3 h7.size hM).mono ?_
  rintro e w' ⟨rfl, hx⟩
  exact ⟨rfl, Pl.turnX h1 h2 h3 h4 h5 h6 h7 hx⟩
theorem pl_rjoin {w0 w : World} {M N bx bo b1 b2 : Nat} {x o : Ix} {l r : List En} (h : Pl w0 M N bx bo b1 b2 x o l r w) (hM : l.length + r.length ≤ 1000000000000) :
    Calls Try.prog 12 #[dp b1, dp b2] w fun e w' => e = .returned (.tuple #[]) ∧ Pl w0 M N bx bo b1 b2 x o (joinE l r) r w' := by
  obtain ⟨T, U, s1, s2, h1, h2, h3, h4, h5, h6, h7⟩ := h
  refine (rjoinX_any h4 h5 h6 h7.size hM).mono ?_
  rintro e w' ⟨rfl, hx⟩
  exact ⟨rfl, Pl.turnY h1 h2 h3 h4 h5 h6 h7 hx⟩

end Go.Proofs.Ytmkilckoeaekkaa
