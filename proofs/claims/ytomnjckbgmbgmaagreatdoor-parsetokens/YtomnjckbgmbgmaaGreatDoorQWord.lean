/-
  What word returns.
-/
import Derived.Test.YtomnjckbgmbgmaaGreatDoorQSpan
namespace Go.Proofs.YtomnjckbgmbgmaaGreatDoor
open Go.RowKit

abbrev TV (k : Int) (s : List UInt8) (n a : Int) : Value := .agg #[.int .i64 k, .string (St s), .int .i64 n, .int .i64 a]
def ansV : Option (Tk × Nat) → Value
  | none => .tuple #[TV 0 [] 0 0, .int .i64 0]
  | some (t, n) => .tuple #[TV t.kind t.s t.n t.at_, .int .i64 n]
theorem wordS_no {l : List UInt8} (h : 24 < spanN isWd l) : wordS l = none := by unfold wordS; rw [if_pos h]
theorem wordS_yes {l : List UInt8} (h : ¬ 24 < spanN isWd l) : wordS l = some (⟨1, l.take (spanN isWd l), 0, 0⟩, spanN isWd l) := by unfold wordS; rw [if_neg h]
set_option maxHeartbeats 400000 in
theorem word_any (l : List UInt8) (hl : (l.length : Int) ≤ 9223372036854775806) (w : World) : Calls Tryz.prog 100 #[.string (St l)] w fun e w' => e = .returned (ansV (wordS l)) ∧ Below w.heap.size w w' := by
  have hsz := St_size l
  have hle := spanN_le isWd l
  have HN := hid (wordS_no (l := l))
  have HY := hid (wordS_yes (l := l))
  have HS := hid (span33 l hl)
  have hs := slT l (spanN isWd l) hle
  generalize spanN isWd l = n at *
  have hnI : (n : Int) ≤ l.length := by omega
  clear hle
  by_cases h : 24 < n
  · have hI : 24 < (n : Int) := by omega
    have HA := hid (HN.out h)
    clear h HN HY
    go_enter Tryz.func100, Tryz.ntmps100
    go_wp2_with (go_at_call 63; refine (HS.out _).mono ?_; rintro e w2 ⟨rfl, rfl⟩)
    refine bodyPost_ret (v := .tuple #[TV 0 [] 0 0, .int .i64 0]) (by simp [results, Tryz.results100, go_sem]; rfl) rfl ⟨by rw [HA.out]; rfl, by go_grown⟩
  · have hI : ¬ 24 < (n : Int) := by omega
    have HA := hid (HY.out h)
    clear h HN HY
    go_enter Tryz.func100, Tryz.ntmps100
    go_wp2_with (go_at_call 63; refine (HS.out _).mono ?_; rintro e w2 ⟨rfl, rfl⟩)
    refine bodyPost_ret (v := .tuple #[TV 1 (l.take n) 0 0, .int .i64 n]) (by simp [results, Tryz.results100, go_sem]) rfl ⟨by rw [HA.out]; rfl, by go_grown⟩
end Go.Proofs.YtomnjckbgmbgmaaGreatDoor
