/-
  The reference's Might, for every input: the three ways together.
-/
import Derived.Test.YtmkilckoeaekkaaQRMight
namespace Go.Proofs.Ytmkilckoeaekkaa
open Go.RowKit Go.Sort Go.Maps Go.Shelf

theorem rmight_any {B : Nat} {w : World} {b : Nat} {sv : Value} {ls : List En} (h : Rk B w b sv ls) (hl : ls.length ≤ 1000000000000) {Q : Nat → Prop} {v : Value} {ns : List (Nd × List Int)} (hq : Qn Q w v ns) (hsz : ∀ y ∈ ns, y.1.s.size ≤ 562949953421312) {nm : ByteArray} {i : Int} (hi : -9223372036854775808 ≤ i ∧ i ≤ 9223372036854775807) :
    Calls Try.prog 19 #[dp b, .string nm, .agg #[v], .int .i64 i] w fun e w' => e = .returned (.bool (might KK (absE ls) nm (qs ns) i)) ∧ Below w.heap.size w w' := by
  have hql : (qs ns).length = ns.length := by simp [qs]
  cases hs : seenE ls nm with
  | false =>
    have e0 : might KK (absE ls) nm (qs ns) i = false := by
      unfold might
      rw [show (absE ls).seen nm = false from hs]
      rfl
    rw [e0]
    exact rmight_no h hl hs
  | true =>
    by_cases hin : 0 ≤ i ∧ i < (ns.length : Int)
    · obtain ⟨n, rfl⟩ := Int.eq_ofNat_of_zero_le hin.1
      exact rmight_in h hl hq hs hsz (n := n) (by omega)
    · have e0 : might KK (absE ls) nm (qs ns) i = true := by
        unfold might
        rw [show (absE ls).seen nm = true from hs, hql, if_neg hin]
        rfl
      rw [e0]
      exact rmight_out h hl hq hs hi (by omega)

end Go.Proofs.Ytmkilckoeaekkaa
