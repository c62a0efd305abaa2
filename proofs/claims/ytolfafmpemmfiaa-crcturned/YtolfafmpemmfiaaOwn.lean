/-
  Bytes that a call makes for itself by append, and what string(b) gives.
-/
import Derived.Test.YtolfafmpemmfiaaGoesWalk
import Derived.Laws.AppendOwnNone
import Derived.Laws.OwnMore
import Derived.OwnWalk
import Derived.Lib.SmallJoins
namespace Go.Proofs.Ytolfafmpemmfiaa
open Go.RowKit Go.Sort

def bc (x : UInt8) : Value := .int .u8 (x.toNat : Int)
theorem info5 : (Try.prog.info? 5).map (fun i => (i.zero, i.size, i.bytes)) = some (some (.int .u8 0), 1, 1) := by kernel_rfl
def Own (B : Nat) (w : World) (v : Value) (xs : List UInt8) : Prop := w.ownsRow B 5 1 v xs.length (xs.map bc)
theorem Own.made (B : Nat) (w : World) (hb : B ≤ w.heap.size) : Own B (w.alloc (.cells #[] 5)) (.slice (some ⟨w.heap.size, 0, none⟩) 0 0) [] :=
  World.ownsRow_made w #[] 0 hb (Nat.zero_le _) (by simp)
theorem Own.lt {B : Nat} {w : World} {v : Value} {xs : List UInt8} (h : Own B w v xs) : ∀ g, v.ownBlock = some g → B ≤ g := fun g hg => (World.ownsRow.lt h g hg).1
theorem Own.bat {B : Nat} {w : World} {v : Value} {xs : List UInt8} (h : Own B w v xs) : BAt w v xs := by
  rcases h.2 with ⟨hv, h0⟩ | ⟨g, cap, cur, hv, hg, hblk, hc, hm, _⟩
  · exact ⟨none, 0, by rw [hv, h0], by omega, fun _ => rfl, Nat.zero_le _, fun hne => absurd (List.eq_nil_of_length_eq_zero h0) hne⟩
  · exact ⟨some ⟨g, 0, none⟩, cap, hv, hc, (fun e => by cases e), hm, fun _ => ⟨_, rfl, fun j x hj => World.ownsRow.cells h (by rw [hv]; rfl) j _ (by rw [List.getElem?_map, hj]; rfl)⟩⟩
/- append(s, x...): s of the call's own, x any slice. -/
theorem app_any {ops : Array Oper} {rest : List Oper} {o : Oper} {a : Act} {Q : Exit → Act → World → Prop} {w : World} {B : Nat} {xs ys : List UInt8} {v y : Value}
    (hgd : o.guard = none) (s x : Operand) (ho : o.op = .call { callee := .builtin .append, args := #[s, x], argTypes := #[22, 22] })
    (hs : a.eval s = v) (hown : Own B w v xs) (hx : a.eval x = y) (hu : BAt w y ys) (hb : xs.length + ys.length ≤ 140737488355328) (hB : B ≤ w.heap.size)
    (h : ∀ v' w', Own B w' v' (xs ++ ys) → Below B w w' → wpList Try.prog ops Q rest (a.put o.dst v') w') : wpList Try.prog ops Q (o :: rest) a w := by
  obtain ⟨i0, hi, hz0, hz1, hz2⟩ := info_parts info5
  obtain ⟨p, cap, rfl, hcap, hnone, hmax, hy⟩ := hu
  cases p with
  | none =>
    have hn : ys = [] := by
      cases ys with
      | nil => rfl
      | cons y r => obtain ⟨b, hp, _⟩ := hy (by simp); cases hp
    subst hn
    have hc := hnone rfl
    subst hc
    refine wpList_append_own_none hgd s x 22 ho B 5 i0 1 Try.underlying22 hi v xs.length _ hs hown (by rw [hx]; rfl) ?_
    exact h v w (by rw [List.append_nil]; exact hown) (Below.refl _ _)
  | some ad =>
    refine wpList_append_own w hgd s x 22 ho B 5 i0 (.int .u8 0) 1 1 Try.underlying22 hi hz0 hz1 hz2 rfl (by omega) v xs.length _ hs hown ad ys.length cap (ys.map bc) hx (by simp) ?_ ?_ ?_ (by omega) hB ?_
    · intro j c hj
      have hne : ys ≠ [] := by intro e; subst e; simp at hj
      obtain ⟨b, hp, hcell⟩ := hy hne
      cases hp
      rw [List.getElem?_map] at hj
      cases hyj : ys[j]? with
      | none => rw [hyj] at hj; cases hj
      | some x => rw [hyj] at hj; cases hj; exact hcell j x hyj
    · intro c hc
      obtain ⟨y, _, rfl⟩ := List.mem_map.1 hc
      rfl
    · unfold maxLen; omega
    · intro v' w' h2 h3 _
      refine h v' w' ?_ ((Below.refl B w).grown h3 hB (fun j e => (hown.lt j e)))
      show w'.ownsRow B 5 1 v' (xs ++ ys).length ((xs ++ ys).map bc)
      rw [List.length_append, List.map_append]; exact h2
theorem conv_bat {w : World} {p : Option Addr} {n cap : Nat} {xs : List UInt8} (h : BAt w (.slice p n cap) xs) : (convert 22 9 (.slice p n cap)).run Try.prog w = .ok (.string ⟨xs.toArray⟩) w := by
  obtain ⟨p', cap', hv, hcap, hnone, hmax, hx⟩ := h
  cases hv
  cases p with
  | none =>
    have hn : xs = [] := by
      cases xs with
      | nil => rfl
      | cons y r => obtain ⟨b, hp, _⟩ := hx (by simp); cases hp
    subst hn
    show (convert 22 9 (.slice none 0 cap)).run Try.prog w = _
    rw [run_convert_bytes_string w 22 9 5 none 0 cap Try.underlying22 Try.underlying5 Try.underlying9]
    simp [Conv.bytesToString]
    rfl
  | some a =>
    refine run_convert_bytes_back w 22 9 5 a cap xs Try.underlying22 Try.underlying5 Try.underlying9 fun j hj => ?_
    obtain ⟨b, hp, hc⟩ := hx (by intro e; subst e; simp at hj)
    cases hp
    exact hc j _ (List.getElem?_eq_getElem hj)
end Go.Proofs.Ytolfafmpemmfiaa
