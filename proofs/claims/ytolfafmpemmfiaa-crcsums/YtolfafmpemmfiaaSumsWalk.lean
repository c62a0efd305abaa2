/-
  The walk of catchmentlaw03.CrcSums.
-/
import Derived.Test.YtolfafmpemmfiaaOwn
namespace Go.Proofs.Ytolfafmpemmfiaa
open Go.RowKit Go.Sort

set_option maxRecDepth 100000 in
set_option maxHeartbeats 1000000 in
theorem sums_any {v : Value} {xs : List UInt8} {n : Int} {w : World} (hv : BAt w v xs) (hlen : xs.length ≤ 140737488351232) (hn : n ≤ 9223372036854775807) : Calls Try.prog 3 #[v, .int .i64 n] w fun e w' => e = .returned (.bool true) ∧ Below w.heap.size w w' := by
  have HV := hid hv
  obtain ⟨p, cap, rfl, -, -, -, -⟩ := hv
  generalize hl : xs.length = l at *
  have HL := hid hl
  clear hl
  go_enter Try.func3, Try.ntmps3
  go_wp2_with (first
    | (go_at_call 7; refine shown_any.mono ?_; rintro e w1 ⟨rfl, hb⟩; have HB := hid hb; clear hb)
    | (at_builtin; refine app_any rfl _ _ rfl rfl (Own.made w1.heap.size w1 (Nat.le_refl _)) rfl (BAt.on (HV.out.on HB.out) ((Below.refl _ _).alloc (Nat.le_refl _) _)) (by simp; have := HL.out; omega) (by simp) ?_; intro v' w2 hown hb2; have HO := hid hown; have HB2 := hid hb2; clear hown hb2))
  have b1 : BAt w2 v' xs := HO.out.bat
  have hbel : Below w.heap.size w w2 := below_on HB.out (((Below.refl _ w1).alloc (Nat.le_refl _) _).trans HB2.out)
  have b2 : BAt w2 (.slice p l cap) xs := HV.out.on hbel
  have HBel := hid hbel
  clear HO HB2 HB HV hbel
  have C8 := hid (sum_any b1)
  have C9 := hid (rsum_any b2)
  have C10 := hid (slot_any b1 hn)
  have C11 := hid (rslot_any b2 hn)
  obtain ⟨q, c, rfl, -, -, -, -⟩ := id b1
  have K1 := conv_bat b1
  have K2 := conv_bat b2
  clear b1 b2
  generalize u (sum xs) = x at *
  generalize slot xs n = r at *
  generalize (⟨xs.toArray⟩ : ByteArray) = st at *
  go_wp2_with (first
    | (go_at_call 8; refine C8.out.mono ?_; rintro e w' ⟨rfl, rfl⟩)
    | (go_at_call 9; refine C9.out.mono ?_; rintro e w' ⟨rfl, rfl⟩)
    | (go_at_call 10; refine C10.out.mono ?_; rintro e w' ⟨rfl, rfl⟩)
    | (go_at_call 11; refine C11.out.mono ?_; rintro e w' ⟨rfl, rfl⟩))
  go_ret
  exact ⟨rfl, HBel.out⟩
end Go.Proofs.Ytolfafmpemmfiaa
