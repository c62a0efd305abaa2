/-
  The reference's Add and the program's tell the same.
-/
import Derived.Test.YtmkilckoeaekkaaQRAdd
namespace Go.Proofs.Ytmkilckoeaekkaa
open Go.RowKit Go.Sort Go.Maps Go.Shelf

theorem Ix.put_self (x : Ix) (n : ByteArray) : x.put n (x.bits n) = x := by
  cases x with
  | mk s b =>
    unfold Ix.put
    congr 1
    funext m
    by_cases h : m = n
    · subst h; simp
    · simp [h]
theorem Ix.put_put (x : Ix) (n : ByteArray) (g g' : ByteArray → F256) : (x.put n g).put n g' = x.put n g' := by
  unfold Ix.put
  congr 1
  funext m
  by_cases h : m = n
  · simp [h]
  · simp [h]
theorem Ix.put_bits (x : Ix) (n : ByteArray) (g : ByteArray → F256) : (x.put n g).bits n = g := by
  unfold Ix.put; simp
theorem Ix.put_lay {x : Ix} {n : ByteArray} (h : x.seen n = true) (g : ByteArray → F256) (c : ByteArray) (F : F256) : ((x.put n g).lay n c F).see n = x.put n (setT g c F) := by
  unfold Ix.put Ix.lay Ix.see
  congr 1
  · funext m
    by_cases e : m = n
    · subst e; simp [h]
    · simp [e]
  · funext m f
    by_cases e : m = n
    · subst e
      by_cases e2 : f = c
      · subst e2; simp [setT, setG]
      · simp [e2, setT, setG]
    · simp [e]
theorem abs_layT {nm : ByteArray} {cols : List Cl} {vals : List Vl} {l : List En} (h : (absE l).seen nm = true) : ∀ k, absE (layT nm cols vals l k) = (absE l).put nm (addT ((absE l).bits nm) cols vals k)
  | 0 => (Ix.put_self _ _).symm
  | k + 1 => by
    have ih := abs_layT (cols := cols) (vals := vals) h k
    rw [layT, addT]
    cases cols[k]? with
    | none => exact ih
    | some c =>
      cases vals[k]? with
      | none => exact ih
      | some v =>
        by_cases e : v.k = 2
        · simp only [e, if_true]
          rw [abs_lay, ih, Ix.put_lay h]
        · simp only [e, if_false]
          exact ih
theorem abs_add (nm : ByteArray) (kc : List Cl) (kv : List Vl) (vc : List Cl) (vv : List Vl) (l : List En) : absE (addE nm kc kv vc vv l) = addX (absE l) nm kc kv vc vv := by
  have h0 : (absE (layE nm noFd 0 l)).seen nm = true := by rw [abs_see]; simp [Ix.see]
  have h1 := abs_layT (cols := kc) (vals := kv) h0 (min kc.length kv.length)
  have h2 : (absE (layG nm kc kv (layE nm noFd 0 l))).seen nm = true := by
    unfold layG; rw [h1]; exact h0
  have h3 := abs_layT (cols := vc) (vals := vv) h2 (min vc.length vv.length)
  unfold addE addX
  show absE (layT nm vc vv _ _) = _
  rw [h3]
  show (absE (layT nm kc kv _ _)).put nm (addT ((absE (layT nm kc kv _ _)).bits nm) vc vv _) = _
  rw [h1, Ix.put_put, Ix.put_bits, abs_see]
  rfl
theorem apart_layT {nm : ByteArray} {cols : List Cl} {vals : List Vl} {l : List En} (h : apartE l) : ∀ k, apartE (layT nm cols vals l k)
  | 0 => h
  | k + 1 => by
    have ih := apart_layT (nm := nm) (cols := cols) (vals := vals) h k
    rw [layT]
    cases cols[k]? with
    | none => exact ih
    | some c =>
      cases vals[k]? with
      | none => exact ih
      | some v =>
        by_cases e : v.k = 2
        · simp only [e, if_true]; exact apart_lay ih
        · simp only [e, if_false]; exact ih
theorem apart_add {nm : ByteArray} {kc : List Cl} {kv : List Vl} {vc : List Cl} {vv : List Vl} {l : List En} (h : apartE l) : apartE (addE nm kc kv vc vv l) := apart_layT (apart_layT (apart_lay h) _) _

end Go.Proofs.Ytmkilckoeaekkaa
