/-
  The walk of catchmentlaw02.TableOrder.
-/
import Derived.Test.YtoadamimfhjoiaaOrderA
import Derived.Test.YtoadamimfhjoiaaOrderB
import Derived.Test.YtoadamimfhjoiaaOrderC
import Derived.Test.YtoadamimfhjoiaaOrderD
namespace Go.Proofs.Ytoadamimfhjoiaa
open Go.RowKit Go.Sort Go.Shelf

theorem tableOrder_any {v : Value} {cs : List Cl} {rs : List Rw} {a : Int} {w : World} (hv : TabAt w v cs rs) (ha0 : -9223372036854775808 ≤ a) (ha : a ≤ 9223372036854775807) :
    Calls Try.prog 5 #[v, .int .i64 a] w fun e w' => e = .returned (.bool true) ∧ Below w.heap.size w w' := by
  obtain ⟨q, nc, cap', p, n, cap, rfl, hcap, c, r, e, hc, hs, hr, hh⟩ := hv.cuts
  cases e
  have hnl : hs.length ≤ 4095 := by rw [hh.1]; exact cut_len' rs
  generalize hm : min n 200 = m at *
  by_cases h0 : 0 < m
  · by_cases hneg : a < 0
    · have h1 : 0 ≤ -(a + 1) := by omega
      have h2 : -(a + 1).tmod (m : Int) = (-(a + 1)) % (m : Int) := by
        rw [← Int.neg_tmod, Int.tmod_eq_emod_of_nonneg h1]
      have h3 := Int.emod_nonneg (-(a + 1)) (b := (m : Int)) (by omega)
      have h4 := Int.emod_lt_of_pos (-(a + 1)) (b := (m : Int)) (by omega)
      exact order_A (k := ((-(a + 1)) % (m : Int)).toNat) hm hc hr hh hcap hnl ha0 ha (by omega) hneg (by omega) (by rw [h2]; omega)
    · have h3 := Int.emod_nonneg a (b := (m : Int)) (by omega)
      have h4 := Int.emod_lt_of_pos a (b := (m : Int)) (by omega)
      exact order_C (k := (a % (m : Int)).toNat) hm hc hr hh hcap hnl ha0 ha (by omega) hneg (by omega) (by omega)
  · by_cases hneg : a < 0
    · exact order_B (k := 0) hm hc hr hh hcap hnl ha0 ha (by omega) hneg (by omega) rfl
    · exact order_D (k := 0) hm hc hr hh hcap hnl ha0 ha (by omega) hneg (by omega) rfl
end Go.Proofs.Ytoadamimfhjoiaa
