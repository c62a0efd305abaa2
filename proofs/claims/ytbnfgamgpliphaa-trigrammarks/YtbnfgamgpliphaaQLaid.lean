/-
  The arguments opened as their types say.
-/
import Derived.Test.YtbnfgamgpliphaaQBase
import Derived.ProofKit
import Derived.OpenShut
import Derived.SizedLaws
import Derived.LaidMore
namespace Go.Proofs.Ytbnfgamgpliphaa
open Go.ChangeShapes Go.WideShapes Go.ChangeAt Go.RowKit

theorem own : ownKnob Try.prog.godebug = none := by kernel_rfl
theorem laidOut : laidOutB Try.prog = true := by kernel_rfl
theorem cells23 : Try.prog.cellsOf 23 = 1 := by kernel_rfl
theorem cells25 : Try.prog.cellsOf 25 = 4 := by kernel_rfl
theorem ok64_of {n : Int} (h : (Lit.int .i64 n).wf = true) : -9223372036854775808 ≤ n ∧ n ≤ 9223372036854775807 := by
  have e1 : IntKind.i64.min = -9223372036854775808 := rfl
  have e2 : IntKind.i64.max = 9223372036854775807 := rfl
  simp [Lit.wf, e1, e2] at h
  exact h
theorem u_of {n : Int} (h : (Lit.int .u64 n).wf = true) : ∃ s : BitVec 64, n = u s := by
  have e1 : IntKind.u64.min = 0 := rfl
  have e2 : IntKind.u64.max = 18446744073709551615 := rfl
  simp [Lit.wf, e1, e2] at h
  refine ⟨BitVec.ofNat 64 n.toNat, ?_⟩
  unfold u
  rw [BitVec.toNat_ofNat]
  omega
section
variable {H : Type} {enc : TypeId × Value → H} {w : World} {base : Nat} {spare : Nat → Bool} {held : Bool}
theorem open_cells4 {m : Nat} {cs : List Value} {y : DataW H × List MemPlace} (h : DataW.trod enc Try.prog w base spare held m 25 cs = some y) :
    ∃ a b c d : BitVec 64, cs = [.int .u64 (u a), .int .u64 (u b), .int .u64 (u c), .int .u64 (u d)] := by
  obtain ⟨xs, m1, rfl, hx1, hlen, hn, hel⟩ := DataW.trod_array Try.underlying25 h
  rw [cells25] at hlen
  rw [cells23] at hel
  match cs, hlen with
  | [c0, c1, c2, c3], _ =>
    match xs, hn with
    | [x0, x1, x2, x3], _ =>
      obtain ⟨a0, e0, _, w0⟩ := DataW.trod_int Try.underlying23 (show DataW.trod enc Try.prog w base spare held m1 23 _ = some x0 from hel 0 (by decide))
      obtain ⟨a1, e1, _, w1⟩ := DataW.trod_int Try.underlying23 (show DataW.trod enc Try.prog w base spare held m1 23 _ = some x1 from hel 1 (by decide))
      obtain ⟨a2, e2, _, w2⟩ := DataW.trod_int Try.underlying23 (show DataW.trod enc Try.prog w base spare held m1 23 _ = some x2 from hel 2 (by decide))
      obtain ⟨a3, e3, _, w3⟩ := DataW.trod_int Try.underlying23 (show DataW.trod enc Try.prog w base spare held m1 23 _ = some x3 from hel 3 (by decide))
      simp at e0 e1 e2 e3
      subst e0 e1 e2 e3
      obtain ⟨a, rfl⟩ := u_of w0
      obtain ⟨b, rfl⟩ := u_of w1
      obtain ⟨c, rfl⟩ := u_of w2
      obtain ⟨d, rfl⟩ := u_of w3
      exact ⟨a, b, c, d, rfl⟩
theorem open25 {r : Reach} {b0 : Nat} {v : Value} {d : DataW H} {p : List MemPlace} (hv : Value.okWide Try.prog w r b0 25 v) (h : DataW.Trod enc Try.prog w base spare held 25 v d p) : ∃ F : F256, v = B4 F := by
  simp only [Value.okWide, Try.underlying25] at hv
  obtain ⟨cs, rfl, hsz, _⟩ := hv
  obtain ⟨fuel, hf⟩ := h
  obtain ⟨a, b, c, d, hcs⟩ := open_cells4 hf
  obtain ⟨h0, h1, h2, h3⟩ := fw_mk4 a b c d
  refine ⟨mk4 a b c d, ?_⟩
  unfold B4
  rw [h0, h1, h2, h3]
  obtain ⟨l⟩ := cs
  simp [Value.cells] at hcs
  subst hcs; rfl
end
theorem str_bound {H : Type} {ts : List TypeId} {ds : List (DataW H)} (h : (DataW.weightsEach Try.prog ts ds).all (· ≤ reachBytes) = true) {j : Nat} {t : TypeId} {s : ByteArray} (ht : ts[j]? = some t) (hd : ds[j]? = some (.lit (.string s.data.toList))) : s.size ≤ 281474976710656 := by
  have h1 := sized_string h ht hd
  have h2 := reachBytes_lt
  have h3 : s.data.toList.length = s.size := Array.length_toList
  omega
end Go.Proofs.Ytbnfgamgpliphaa
