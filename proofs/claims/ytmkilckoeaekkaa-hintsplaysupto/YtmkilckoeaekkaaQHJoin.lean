/-
  What Join and Clone of package hints do, in whatever order names and fields come.
-/
import Derived.Test.YtmkilckoeaekkaaQJMath
import Derived.LaidEqlPtr
namespace Go.Proofs.Ytmkilckoeaekkaa
open Go.RowKit Go.Sort Go.Maps Go.Shelf

theorem info68 : (Try.prog.info? 68).map (fun i => i.size) = some 1 := by kernel_rfl
theorem eqlP {w : World} {a b : Nat} {ca cb : Array Value} (hne : a ≠ b) (ha : w.heap[a]? = some (.cells ca 68)) (hb : w.heap[b]? = some (.cells cb 68)) : (binOp .eql 28 (dp a) (dp b)).run Try.prog w = .ok (.bool false) w := by
  cases hi : Try.prog.info? 68 with
  | none => have := info68; rw [hi] at this; cases this
  | some j =>
    have h1 := info68
    rw [hi] at h1
    have h2 : j.size = 1 := by simpa using h1
    exact run_eql_ptr_other w Try.underlying28 hi (by omega) (fun e => hne (by injection e)) ha hb
theorem joinX_nil {b : Nat} {w : World} : Calls Try.prog 11 #[dp b, .pointer none] w fun e w' => e = .returned (.tuple #[]) ∧ w' = w := by
  go_enter Try.func11, Try.ntmps11
  go_wp2
  go_returns
  exact ⟨rfl, rfl⟩
theorem join_nothing {x o : Ix} (h1 : ∀ n, o.seen n = false) (h2 : ∀ n, o.seen n = false → ∀ g, o.bits n g = 0) : x.join o = x :=
  Ix.ext (fun n => by show (x.seen n || o.seen n) = _; rw [h1]; simp) (fun n g => by show x.bits n g ||| o.bits n g = _; rw [h2 n (h1 n) g]; exact or_zero _)
set_option maxHeartbeats 1000000 in
theorem joinX_none {b bo : Nat} {w : World} (hne : b ≠ bo) {cb : Array Value} (hkb : w.heap[b]? = some (.cells cb 68)) (hk : w.heap[bo]? = some (.cells #[.map none] 68)) : Calls Try.prog 11 #[dp b, dp bo] w fun e w' => e = .returned (.tuple #[]) ∧ Below w.heap.size w w' := by
  have k0 : ∀ o, w.cell? ⟨bo, o, none⟩ = #[.map none][o]? := block_cell hk
  have q1 := run_range_nilMap (P := Try.prog) w 66 9 70 Try.underlying66
  have q2 := fun ty => run_next_nilMap (P := Try.prog) w ty 0 0 #[]
  have q3 := eqlP (fun e => hne e.symm) hk hkb
  go_enter Try.func11, Try.ntmps11
  go_wp2_with fail
  go_loopw [4] (fun _ wr => wr = w.alloc (.mapIter none 0 #[] 0)) (fun _ _ => 0)
  case atStart => rfl
  case round =>
    subst hrel
    go_wp2
    go_returns
    exact ⟨rfl, (Below.refl _ _).alloc (Nat.le_refl _) _⟩
end Go.Proofs.Ytmkilckoeaekkaa
