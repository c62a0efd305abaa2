/-
  What the statements' own shown returns.
-/
import Derived.Test.YtmkilckoeaekkaaQHApp
namespace Go.Proofs.Ytmkilckoeaekkaa
open Go.RowKit Go.Sort Go.Maps Go.Shelf

/- An index with a point of that host more. -/
def addH (x : Ix) (s : ByteArray) : Ix := addX x loadB [hostC] [strV s] [nC] [intV]
theorem addH_any {B M : Nat} {w w1 w2 : World} {b : Nat} {x : Ix} {T : Nat → Prop} {s : ByteArray} {ks vs pk pv : Value} (h : Hx B M w b x T) (hB : B ≤ w.heap.size) (hM : M < 1000) (hs : s.size ≤ 562949953421312) (hb1 : Below w.heap.size w w1) (hb2 : Below w1.heap.size w1 w2)
    (h1 : SlAt (Fr w w1) Cl.cells 2 w1 ks [hostC]) (h2 : SlAt (Fr w w1) Cl.cells 2 w1 vs [nC]) (h3 : SlAt (Fr w1 w2) Vl.cells 11 w2 pk [strV s]) (h4 : SlAt (Fr w1 w2) Vl.cells 11 w2 pv [intV]) :
    Calls Try.prog 9 #[dp b, Sc loadB ks vs, Po loadB pk 0 pv] w2 fun e w' => e = .returned (.tuple #[]) ∧ ∃ T', Hx B (M + 3) w' b (addH x s) T' ∧ (∀ k, T' k → T k ∨ w.heap.size ≤ k) ∧ Kp T w w' := by
  have hb := hb1.trans (hb2.mono hb1.size)
  have z1 := hb1.size
  have z2 := hb2.size
  have hlt := h.T_lt
  refine (add_any (h.on hb) (by omega) (Q := Fr w w2) (fun k hk => ⟨fun ht => by have := hlt k ht; have := hk.1; omega, hk.2⟩) (by decide) ((h1.on hb2).imp (fun k hk => ⟨hk.1, by have := hk.2; omega⟩)) (h3.imp (fun k hk => ⟨by have := hk.1; omega, hk.2⟩)) ((h2.on hb2).imp (fun k hk => ⟨hk.1, by have := hk.2; omega⟩)) (h4.imp (fun k hk => ⟨by have := hk.1; omega, hk.2⟩)) (by unfold maxLen; simp; omega) (fun c hc => ?_) (fun c hc => ?_) (fun v hv => ?_) (fun v hv => ?_)).mono ?_
  · simp at hc; subst hc; decide
  · simp at hc; subst hc; decide
  · simp at hv; subst hv; exact hs
  · simp at hv; subst hv; decide
  · rintro e w' ⟨rfl, T', hx', ht', hk'⟩
    exact ⟨rfl, T', hx'.mono (by simp), fun k hk => (ht' k hk).imp id (fun h => by omega), (Kp.of hb).trans hk'⟩
/- One index alone, above a world that stays. -/
def Ax (w0 : World) (M b : Nat) (x : Ix) (w : World) : Prop := (∃ T, Hx w0.heap.size M w b x T) ∧ Below w0.heap.size w0 w
theorem Ax.on {w0 w w' : World} {M b : Nat} {x : Ix} (h : Ax w0 M b x w) (hb : Below w.heap.size w w') : Ax w0 M b x w' := let ⟨⟨T, h1⟩, h2⟩ := h; ⟨⟨T, h1.on hb⟩, h2.trans (hb.mono h2.size)⟩
theorem ax_add {w0 w w1 w2 : World} {M b : Nat} {x : Ix} {s : ByteArray} {ks vs pk pv : Value} (h : Ax w0 M b x w) (hM : M < 1000) (hs : s.size ≤ 562949953421312) (hb1 : Below w.heap.size w w1) (hb2 : Below w1.heap.size w1 w2)
    (h1 : SlAt (Fr w w1) Cl.cells 2 w1 ks [hostC]) (h2 : SlAt (Fr w w1) Cl.cells 2 w1 vs [nC]) (h3 : SlAt (Fr w1 w2) Vl.cells 11 w2 pk [strV s]) (h4 : SlAt (Fr w1 w2) Vl.cells 11 w2 pv [intV]) :
    Calls Try.prog 9 #[dp b, Sc loadB ks vs, Po loadB pk 0 pv] w2 fun e w' => e = .returned (.tuple #[]) ∧ Ax w0 (M + 3) b (addH x s) w' := by
  obtain ⟨⟨T, hx⟩, hb⟩ := h
  refine (addH_any hx hb.size hM hs hb1 hb2 h1 h2 h3 h4).mono ?_
  rintro e w' ⟨rfl, T', hx', ht', hk'⟩
  exact ⟨rfl, ⟨T', hx'⟩, hb.trans (hk'.below hb.size hx.T_ge)⟩
theorem ax_might {w0 w : World} {M b : Nat} {x : Ix} {Q : Nat → Prop} {v : Value} {ns : List (Nd × List Int)} {nm : ByteArray} {i : Int} {t : Bool} (h : Ax w0 M b x w) (hq : Qn Q w v ns) (hn : nm.size ≤ maxLen) (hi : -9223372036854775808 ≤ i ∧ i ≤ 9223372036854775807) (ht : might KK x nm (qs ns) i = t) :
    Calls Try.prog 18 #[dp b, .string nm, .agg #[v], .int .i64 i] w fun e w' => e = .returned (.bool t) ∧ Ax w0 M b x w' ∧ Below w.heap.size w w' := by
  obtain ⟨⟨T, hx⟩, hb⟩ := h
  refine (Might_any hx hq hn hi).mono ?_
  rintro e w' ⟨rfl, hb'⟩
  exact ⟨by rw [ht], ⟨⟨T, hx.on hb'⟩, hb.trans (hb'.mono hb.size)⟩, hb'⟩
theorem ax_seen {w0 w : World} {M b : Nat} {x : Ix} {nm : ByteArray} {t : Bool} (h : Ax w0 M b x w) (hn : nm.size ≤ maxLen) (ht : x.seen nm = t) : Calls Try.prog 14 #[dp b, .string nm] w fun e w' => e = .returned (.bool t) ∧ w' = w := by
  obtain ⟨⟨T, hx⟩, hb⟩ := h
  rw [← ht]; exact seen_any hx hn
abbrev webB : ByteArray := ⟨#[119, 101, 98]⟩
abbrev web2B : ByteArray := ⟨#[119, 101, 98, 50]⟩
abbrev weB : ByteArray := ⟨#[119, 101]⟩
abbrev latB : ByteArray := ⟨#[108, 97, 116]⟩
def exX : Ix := addH (addH Ix.none webB) web2B
def notN (g : Nat) : Nd := ⟨13, ⟨#[]⟩, 0, 0, 0, ⟨0, 0, ⟨#[]⟩, 0, 0, 0, 0, 0, 0, 0, 0⟩, .slice (some ⟨g, 0, none⟩) 1 1, .slice none 0 0, .slice none 0 0⟩
theorem ex1 : might KK exX loadB (qs [(condN 14 1 webB, [])]) 0 = true := by decide +kernel
theorem ex2 : might KK exX loadB (qs [(condN 14 1 weB, [])]) 0 = false := by decide +kernel
theorem ex3 : might KK exX loadB (qs [(condN 15 0 ⟨#[101, 98, 50]⟩, [])]) 0 = true := by decide +kernel
theorem ex4 : might KK exX loadB (qs [(condN 15 0 ⟨#[120, 121, 122]⟩, [])]) 0 = false := by decide +kernel
theorem ex5 (g : Nat) : might KK exX latB (qs [(condN 14 1 weB, []), (notN g, [0])]) 0 = false := by unfold might; rw [show exX.seen latB = false by decide +kernel]; rfl
theorem ex6 (g : Nat) : might KK exX loadB (qs [(condN 14 1 weB, []), (notN g, [0])]) 1 = true := by
  show might KK exX loadB [_, _] 1 = true
  unfold might
  rw [show exX.seen loadB = true by decide +kernel]
  rfl
theorem ex7 : exX.seen loadB = true := by decide +kernel
theorem ex8 : exX.seen latB = false := by decide +kernel
end Go.Proofs.Ytmkilckoeaekkaa
