/-
  The reference's Might: a schema that was not seen, a node that there is not.
-/
import Derived.Test.YtmkilckoeaekkaaQHMay
import Derived.Test.YtmkilckoeaekkaaQRTie
namespace Go.Proofs.Ytmkilckoeaekkaa
open Go.RowKit Go.Sort Go.Maps Go.Shelf

theorem rseen_is {B : Nat} {w : World} {b : Nat} {sv : Value} {l : List En} (h : Rk B w b sv l) (n : ByteArray) (hl : l.length ≤ 1000000000000) {r : Bool} (hr : seenE l n = r) : Calls Try.prog 15 #[dp b, .string n] w fun e w' => e = .returned (.bool r) ∧ w' = w := by
  subst hr; exact rseen_any h n hl
set_option maxRecDepth 100000 in
set_option maxHeartbeats 1000000 in
theorem rmight_no {B : Nat} {w : World} {b : Nat} {sv : Value} {l : List En} (h : Rk B w b sv l) (hl : l.length ≤ 1000000000000) {v : Value} {nm : ByteArray} (hs : seenE l nm = false) {i : Int} :
    Calls Try.prog 19 #[dp b, .string nm, .agg #[v], .int .i64 i] w fun e w' => e = .returned (.bool false) ∧ Below w.heap.size w w' := by
  have HB : Hid (Below w.heap.size w (w.alloc (.cells #[v] 26))) := (Below.refl _ _).alloc (Nat.le_refl _) _
  have HK := hid (h.on HB.out)
  generalize hW : w.alloc (.cells #[v] 26) = w1 at *
  have HW := hid hW
  have HL := hid hl
  have HS := hid hs
  clear hW h hl hs
  go_enter Try.func19, Try.ntmps19
  go_upto_region 1 with fail
  rw [HW.out]
  go_wp2_with (go_at_call 15; refine (rseen_is HK.out _ HL.out HS.out).mono ?_; rintro e w2 ⟨rfl, rfl⟩)
  go_ret
  exact ⟨rfl, HB.out⟩
set_option maxRecDepth 100000 in
set_option maxHeartbeats 1000000 in
theorem rmight_out {B : Nat} {w : World} {b : Nat} {sv : Value} {l : List En} (h : Rk B w b sv l) (hl : l.length ≤ 1000000000000) {Q : Nat → Prop} {v : Value} {ns : List (Nd × List Int)} (hq : Qn Q w v ns) {nm : ByteArray} (hs : seenE l nm = true) {i : Int} (hi : -9223372036854775808 ≤ i ∧ i ≤ 9223372036854775807) (hin : i < 0 ∨ (ns.length : Int) ≤ i) :
    Calls Try.prog 19 #[dp b, .string nm, .agg #[v], .int .i64 i] w fun e w' => e = .returned (.bool true) ∧ Below w.heap.size w w' := by
  have HB : Hid (Below w.heap.size w (w.alloc (.cells #[v] 26))) := (Below.refl _ _).alloc (Nat.le_refl _) _
  have HK := hid (h.on HB.out)
  have k1 : ∀ o, (w.alloc (.cells #[v] 26)).cell? ⟨w.heap.size, o, none⟩ = #[v][o]? := block_cell (alloc_block _ _)
  generalize hW : w.alloc (.cells #[v] 26) = w1 at *
  have HW := hid hW
  obtain ⟨p, cp, rfl, hc1, hc2⟩ := hq.sl.form
  have hlen := hq.len
  have HL := hid hl
  have HS := hid hs
  clear hW h hl hs hq
  generalize ns.length = ln at *
  unfold maxLen at hc2
  rcases hin with h0 | h0
  · have hd : decide (i < 0) = true := decide_eq_true h0
    go_enter Try.func19, Try.ntmps19
    go_upto_region 1 with fail
    rw [HW.out]
    go_wp2_with (go_at_call 15; refine (rseen_is HK.out _ HL.out HS.out).mono ?_; rintro e w2 ⟨rfl, rfl⟩)
    go_ret
    exact ⟨rfl, HB.out⟩
  · have hd : decide (i < 0) = false := decide_eq_false (by omega)
    have hd2 : decide ((ln : Int) ≤ i) = true := decide_eq_true h0
    go_enter Try.func19, Try.ntmps19
    go_upto_region 1 with fail
    rw [HW.out]
    go_wp2_with (go_at_call 15; refine (rseen_is HK.out _ HL.out HS.out).mono ?_; rintro e w2 ⟨rfl, rfl⟩)
    go_ret
    exact ⟨rfl, HB.out⟩

end Go.Proofs.Ytmkilckoeaekkaa
