/-
  The statements' argument: samples as they come in.
-/
import Derived.Test.YtkjbnanjlcdgjaaQShown
import Derived.Deep.RegionHeld3
import Derived.Deep.RegionHeldLaw
namespace Go.Proofs.Ytkjbnanjlcdgjaa
open Go.RowKit Go.Sort Go.Shelf

/- The statements' samples, as they come in. -/
structure LsA (w : World) (v : Value) (L : List Sp) : Prop where
  sm : Smp w v L
  ml : L.length ≤ 9223372036854775807
  tm : ∀ s ∈ L, -9223372036854775808 ≤ s.t ∧ s.t ≤ 9223372036854775807
abbrev K2 (g o : Nat) (t : Int) (kv : Value) (w : World) : Prop := w.cell? ⟨g, o, none⟩ = some (.int .i64 t) ∧ w.cell? ⟨g, o + 1, none⟩ = some kv
theorem k2D {g o : Nat} {t : Int} {kv : Value} {w : World} (h : K2 g o t kv w) : K2 g o t kv w.drew := h
theorem k2On {g o B : Nat} {t : Int} {kv : Value} {w w' : World} (h : K2 g o t kv w) (hg : g < B) (hb : Below B w w') : K2 g o t kv w' := ⟨(hb.cell (p := ⟨g, o, none⟩) hg).trans h.1, (hb.cell (p := ⟨g, o + 1, none⟩) hg).trans h.2⟩
theorem enters9 : ∀ args w, (callFunc 9 args).run Try.prog w = .ok (.enter 9 args) w := enters_of Try.func9 (by kernel_rfl) rfl
theorem range_own {B : Nat} {w : World} {b : Nat} {l r : List Sp} {a z : Int} (h : RkE B w b l) (hlen : l.length ≤ 500) (hf : rngS l a z = r) :
    Calls Try.prog 15 #[dp b, .int .i64 a, .int .i64 z] w fun e w' => ∃ p c hs, e = .returned (.slice p r.length c) ∧ Own Sh.cells 2 32 w.heap.size w' (.slice p r.length c) hs ∧ HeadsS any w' hs r ∧ Below w.heap.size w w' := by
  obtain ⟨sv, pv, h⟩ := h
  subst hf
  refine (range_any (Q := any) h hlen (fun _ _ => trivial)).mono ?_
  rintro e w' ⟨v, hs, rfl, ho, hh, hb⟩
  obtain ⟨p, c, rfl⟩ := own_formN ho hh.1
  exact ⟨p, c, hs, rfl, ho, hh, hb⟩
theorem rows_grown {α : Type} {enc : α → List Value} {q e B : Nat} {P : Nat → Prop} {w w' : World} {v : Value} {xs : List α} {hs : List Sh} {L : List Sp} (ho : Own enc q e B w v xs) (hg : w.grownBy w' v.ownBlock) (he : e ≠ 36) (hh : HeadsS P w hs L) : HeadsS P w' hs L := by
  have hk := Kp.grown (T := fun x => v.ownBlock = some x) hg (fun k e => e)
  refine hh.kp hk (fun k hk e => ?_)
  obtain ⟨-, x, y, hx⟩ := hk
  obtain ⟨x', y', hx'⟩ := own_kind ho e
  rw [hx] at hx'; cases hx'; exact he rfl
theorem smp_len {w : World} {v : Value} {L : List Sp} (h : Smp w v L) : ∃ p c, v = .slice p L.length c := by obtain ⟨p, c, hv, _⟩ := h; exact ⟨p, c, hv⟩
/- Numbers as a slice. -/
def IntA (w : World) (v : Value) (xs : List Int) : Prop := ∃ p c, v = .slice p xs.length c ∧ xs.length ≤ c ∧ xs.length ≤ maxLen ∧ ∀ (j : Nat) x, xs[j]? = some x → ∃ g o, p = some ⟨g, o, none⟩ ∧ w.cell? ⟨g, o + j, none⟩ = some (.int .i64 x)
instance : Inhabited Vl := ⟨⟨0, 0, ⟨#[]⟩, 0, 0, 0, 0, 0, 0, 0, 0, (show (0 : Nat) ≤ maxLen by decide)⟩⟩
end Go.Proofs.Ytkjbnanjlcdgjaa
