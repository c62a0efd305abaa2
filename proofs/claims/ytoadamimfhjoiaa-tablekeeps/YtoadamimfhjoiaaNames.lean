/-
  Names opened as their type says: the first forty lie in memory as plain texts.
-/
import Derived.Test.YtoadamimfhjoiaaLaid
namespace Go.Proofs.Ytoadamimfhjoiaa
open Go.ChangeShapes Go.WideShapes Go.ChangeAt Go.WideMaps Go.WideElems Go.RowKit Go.Joins
section
variable {H : Type} {enc : TypeId × Value → H} {W : World} {base : Nat} {spare : Nat → Bool} {held : Bool}
set_option maxRecDepth 100000 in
theorem open_names {r : Reach} {b0 : Nat} {v : Value} {d : DataW H} {p : List MemPlace} (hv : Value.okWide Try.prog W r b0 39 v) (h : DataW.Trod enc Try.prog W base spare held 39 v d p) : ∃ q n cap ns, v = .slice q n cap ∧ n ≤ cap ∧ NamesAt W (.slice q (min n 40) cap) ns := by
  obtain ⟨a0, l0, c0, rfl⟩ := okWide_slice Try.underlying39 hv
  obtain ⟨fuel, hfu⟩ := h
  rcases Deep.open_slice Try.underlying39 hfu with ⟨hcs, _⟩ | ⟨a, len, cap, m, n, D, Pl, hcs, hba, hl, hm, hmm, hx, hall⟩
  · cases hcs
    exact ⟨none, 0, 0, [], rfl, Nat.le_refl _, SlAt.nil _ _ _ _⟩
  · cases hcs
    have hlm : l0 ≤ m := by rw [hmm]; split <;> omega
    obtain ⟨X, hX⟩ := Deep.choose_lt (α := ByteArray) (n := l0) (p := fun i x => W.cells? base (a.add (i * 1)) 1 = some (encS x)) (fun i hi => by
      obtain ⟨cs', h1, h2⟩ := hall i (by omega)
      rw [cells9] at h1
      obtain ⟨s, e2, _, _⟩ := DataW.trod_string Try.underlying9 h2
      subst e2
      exact ⟨s, h1⟩)
    refine ⟨some a, l0, c0, (List.range (min l0 40)).map X, rfl, hl, ?_⟩
    have hlen : ((List.range (min l0 40)).map X).length = min l0 40 := by simp
    refine ⟨some a, c0, by rw [hlen], ⟨by rw [hlen]; omega, fun e => by cases e⟩, by rw [hlen]; unfold maxLen; omega, fun hne => ?_⟩
    have h0 : 0 < l0 := Nat.pos_of_ne_zero (fun e => hne (by rw [e]; rfl))
    obtain ⟨b, off, spot⟩ := a
    have hsp : spot = none := by
      have h1 := (World.cells?_some (hX 0 h0)).2.2 0 (by decide)
      rw [Nat.zero_mul] at h1
      have h2 : (encS (X 0))[0]? = some (.string (X 0)) := rfl
      rw [h2] at h1
      simpa [Addr.add] using World.cell?_spot h1
    subst hsp
    refine ⟨b, off, rfl, ⟨trivial, by rw [hlen]; exact small1 (by omega)⟩, fun j x hj i u hu => ?_⟩
    have hj' : j < min l0 40 := by have := (List.getElem?_eq_some_iff.1 hj).1; rwa [hlen] at this
    have hxj : X j = x := by simpa [List.getElem?_map, List.getElem?_range hj'] using hj
    subst hxj
    have hi : i < 1 := (List.getElem?_eq_some_iff.1 hu).1
    have h1 := (World.cells?_some (hX j (by omega))).2.2 i hi
    rw [hu, Addr.add_lit, Addr.add_lit] at h1
    exact h1
end
end Go.Proofs.Ytoadamimfhjoiaa
