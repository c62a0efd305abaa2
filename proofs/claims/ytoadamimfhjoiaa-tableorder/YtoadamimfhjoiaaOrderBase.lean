/-
  What the walk of catchmentlaw02.TableOrder wants besides.
-/
import Derived.Test.YtoadamimfhjoiaaSameWalk
import Derived.Test.YtoadamimfhjoiaaRUnionOk
namespace Go.Proofs.Ytoadamimfhjoiaa
open Go.RowKit Go.Sort Go.Shelf

def turn (c : Int) : Int := if c < 0 then -(c + 1) else c
theorem canonT' {v : Value} {cs : List Cl} {rs : List Rw} {w : World} (hv : TabAt w v cs rs) :
    Calls Try.prog 18 #[v] w fun e w' => ∃ pc capc pr capr, e = .returned (.agg #[.slice pc cs.length capc, .slice pr rs.length capr]) ∧ TabAt w' (.agg #[.slice pc cs.length capc, .slice pr rs.length capr]) cs (sortR rs) ∧ Below w.heap.size w w' :=
  (canon_any hv).mono fun e w' ⟨v', he, ht, hb⟩ => by
    obtain ⟨pc, capc, pr, capr, e1⟩ := ht.at.form rfl (sortR_length rs)
    subst e1
    exact ⟨pc, capc, pr, capr, he, ht.at, hb⟩
theorem turned_perm (rs : List Rw) (k : Nat) : (rs.drop k ++ rs.take k).Perm rs := (List.perm_append_comm).trans (by rw [List.take_append_drop])
theorem cut_len' (rs : List Rw) : (rs.take 200).length ≤ 4095 := by simp; omega
def tyE (e : TypeId) (w : World) (b : Nat) : Prop := ∃ c fz, w.heap[b]? = some (.cells c e fz)
theorem own_ty {α : Type} {enc : α → List Value} {k e B : Nat} {w : World} {v : Value} {xs : List α} (h : Own enc k e B w v xs) (hk : ∀ x, (enc x).length = k) (hb : xs.length * bsz k ≤ 140737488355328) : SlAt (fun b => B ≤ b ∧ tyE e w b) enc k w v xs := by
  refine SlAt.imp (Q := fun b => b = v.ownBlock.getD 0 ∧ v.ownBlock.isSome ∧ B ≤ b) ?_ (fun b hb => ?_)
  · obtain ⟨p, cap, hv, hc, hm, hx⟩ := Own.sl h hk hb
    refine ⟨p, cap, hv, hc, hm, fun hn => ?_⟩
    obtain ⟨b, o, hp, hQ, hj⟩ := hx hn
    subst hv hp
    exact ⟨b, o, rfl, ⟨⟨by rcases h.2 with ⟨e, _⟩ | ⟨g, c, cur, e, _⟩ <;> (cases e; try rfl), by rcases h.2 with ⟨e, _⟩ | ⟨g, c, cur, e, _⟩ <;> (cases e; try rfl), hQ.1⟩, hQ.2⟩, hj⟩
  · obtain ⟨e1, hs, hB2⟩ := hb
    obtain ⟨g, hg⟩ := Option.isSome_iff_exists.1 hs
    have e' : b = g := by rw [hg] at e1; exact e1
    obtain ⟨c, fz, hc⟩ := Lib.ownsRow_kind h g hg
    exact ⟨hB2, c, fz, by rw [e']; exact hc⟩
theorem ty_alloc {B : Nat} {w : World} {v : Value} {hs : List Value} (h : SlAt (fun b => B ≤ b ∧ tyE 35 w b) one 1 w v hs) (o : Obj) : SlAt (fun b => B ≤ b ∧ tyE 35 (w.alloc o) b) one 1 (w.alloc o) v hs :=
  (h.on ((Below.refl _ w).alloc (Nat.le_refl _) o)).imp (fun _ hb => let ⟨h1, c, fz, hc⟩ := hb; ⟨h1, c, fz, blk_on hc o⟩)
theorem ty_far {B Y : Nat} {w : World} {c : Array Value} {fz : Nat × Nat} (h : w.heap[Y]? = some (.cells c 25 fz)) : ∀ b, (B ≤ b ∧ tyE 35 w b) → b ≠ Y := fun b hb e => by
  subst e
  obtain ⟨-, c', fz', hc⟩ := hb
  rw [h] at hc
  cases hc
theorem own_ne25 {B Y : Nat} {w : World} {v : Value} {hs : List Value} {c : Array Value} {fz : Nat × Nat} (h : Own one 1 35 B w v hs) (hY : w.heap[Y]? = some (.cells c 25 fz)) : some Y ≠ v.ownBlock := fun e => by
  obtain ⟨c', fz', hc⟩ := Lib.ownsRow_kind h Y e.symm
  rw [hY] at hc
  cases hc
theorem made1_2 (w : World) (x : Obj) : Own one 1 35 w.heap.size ((w.alloc x).alloc (.cells #[] 35)).drew (.slice (some ⟨w.heap.size + 1, 0, none⟩) 0 0) ([] : List Value) := by
  have h := Own.made one 1 35 w.heap.size (w.alloc x) (by simp)
  rw [World.size_alloc] at h
  exact h
theorem made1_3 (w : World) (y : Obj) : Own one 1 35 w.heap.size ((w.alloc (.cells #[] 35)).alloc y).drew (.slice (some ⟨w.heap.size, 0, none⟩) 0 0) ([] : List Value) :=
  (Own.made one 1 35 w.heap.size w (Nat.le_refl _)).on ((Below.refl _ _).alloc (Nat.le_refl _) y).drew
theorem rev_snoc {hs : List Value} {j d : Nat} (h : d + j + 1 = hs.length) : hs.reverse.take (j + 1) = hs.reverse.take j ++ [hs[d]!] := by
  have hj : j < hs.reverse.length := by simp; omega
  rw [List.take_add_one, List.getElem?_eq_getElem hj, List.getElem_reverse]
  have e : hs.length - 1 - j = d := by omega
  have e2 : hs[d]! = hs[d]'(by omega) := by rw [List.getElem!_eq_getElem?_getD, List.getElem?_eq_getElem (by omega)]; rfl
  simp only [e, e2]
  rfl
theorem own_set {B R i : Nat} {w : World} {v u : Value} {hs : List Value} (h : Own one 1 35 B w v hs) (hR : R < B) : Own one 1 35 B (w.setCell ⟨R, i, none⟩ u) v hs := by
  refine ⟨h.1, h.2.elim Or.inl (fun ⟨g, cap, cur, hv, hg, hblk, q⟩ => Or.inr ⟨g, cap, cur, hv, hg, ?_, q⟩)⟩
  exact far_set hblk (by omega)
theorem cell_set_far {w : World} {b o R i : Nat} {v u : Value} (h : w.cell? ⟨b, o, none⟩ = some v) (hne : b ≠ R) : (w.setCell ⟨R, i, none⟩ u).cell? ⟨b, o, none⟩ = some v := by
  rw [World.cell?_setCell_other w ⟨R, i, none⟩ ⟨b, o, none⟩ u (fun e => hne (by injection e with e1; exact e1.symm))]; exact h
theorem heads_rev {Q : Nat → Prop} {w : World} {hs : List Value} {rs : List Rw} (h : HeadsIn Q w hs rs) : HeadsIn Q w hs.reverse rs.reverse := by
  refine ⟨by simp [h.1], fun j x r h1 h2 => ?_⟩
  have hj : j < hs.length := by have := (List.getElem?_eq_some_iff.1 h1).1; simpa using this
  rw [List.getElem?_reverse hj] at h1
  rw [List.getElem?_reverse (by rw [← h.1]; exact hj), ← h.1] at h2
  exact h.2 _ x r h1 h2
end Go.Proofs.Ytoadamimfhjoiaa
