/-
  What strings.HasPrefix and strings.TrimPrefix return.
-/
import Derived.Test.YtomnjckbgmbgmaaGreatDoorQWord
namespace Go.Proofs.YtomnjckbgmbgmaaGreatDoor
open Go.RowKit
theorem bytes_toList_inj {s t : ByteArray} (h : s.toList = t.toList) : s = t := by
  rw [ByteArray.toList_eq, ByteArray.toList_eq] at h
  obtain ⟨⟨x⟩⟩ := s
  obtain ⟨⟨y⟩⟩ := t
  simp at h
  subst h; rfl
theorem St_inj {l p : List UInt8} (h : St l = St p) : l = p := by
  have := congrArg (fun s : ByteArray => s.data.toList) h
  simpa [St] using this
theorem St_eq (l : List UInt8) (p : List UInt8) : ((St l).toList == (St p).toList) = (l == p) := by
  rcases Decidable.em (l = p) with h | h
  · subst h; simp
  · rw [beq_eq_false_iff_ne.2 h]
    apply beq_eq_false_iff_ne.2
    intro e; exact h (St_inj (bytes_toList_inj e))
theorem pre_is (l p : List UInt8) : p.isPrefixOf l = (decide (p.length ≤ l.length) && (l.take p.length == p)) := by
  apply Bool.eq_iff_iff.2
  rw [List.isPrefixOf_iff_prefix, List.prefix_iff_eq_take]
  simp
  constructor
  · intro h
    refine ⟨?_, h.symm⟩
    have := congrArg List.length h; simp at this; omega
  · intro h; exact h.2.symm
set_option maxHeartbeats 400000 in
theorem pre40 (l p : List UInt8) (w : World) : Calls Tryz.prog 148 #[.string (St l), .string (St p)] w fun e w' => e = .returned (.bool (p.isPrefixOf l)) ∧ w' = w := by
  have hsz := St_size l
  have hsp := St_size p
  rw [pre_is]
  by_cases h : p.length ≤ l.length
  · have hI : (p.length : Int) ≤ l.length := by omega
    have hs := slT l p.length h
    have he := St_eq (l.take p.length) p
    go_enter Tryz.func148, Tryz.ntmps148
    go_wp2
    go_ret
    exact ⟨by simp [h], rfl⟩
  · have hI : ¬ (p.length : Int) ≤ l.length := by omega
    go_enter Tryz.func148, Tryz.ntmps148
    go_wp2
    go_ret
    exact ⟨by simp, rfl⟩
theorem pre_any (l p : List UInt8) (w : World) : Calls Tryz.prog 128 #[.string (St l), .string (St p)] w fun e w' => e = .returned (.bool (p.isPrefixOf l)) ∧ w' = w := by
  go_enter Tryz.func128, Tryz.ntmps128
  go_wp2_with (go_at_call 148; refine (pre40 _ _ _).mono ?_; rintro e w2 ⟨rfl, rfl⟩)
  go_ret
  exact ⟨rfl, rfl⟩
def trimL (p l : List UInt8) : List UInt8 := if p.isPrefixOf l then l.drop p.length else l
theorem trim37 (l p : List UInt8) (w : World) : Calls Tryz.prog 145 #[.string (St l), .string (St p)] w fun e w' => e = .returned (.string (St (trimL p l))) ∧ w' = w := by
  have hsz := St_size l
  have hsp := St_size p
  cases h : p.isPrefixOf l with
  | true =>
    have h2 := (List.isPrefixOf_iff_prefix.1 h).length_le
    rw [show trimL p l = l.drop p.length by unfold trimL; rw [if_pos h]]
    have hs := slF l p.length h2
    go_enter Tryz.func145, Tryz.ntmps145
    go_wp2_with (go_at_call 148; refine (pre40 _ _ _).mono ?_; rintro e w2 ⟨rfl, rfl⟩; rw [h])
    go_ret
    exact ⟨rfl, rfl⟩
  | false =>
    rw [show trimL p l = l by unfold trimL; rw [if_neg (by simp [h])]]
    go_enter Tryz.func145, Tryz.ntmps145
    go_wp2_with (go_at_call 148; refine (pre40 _ _ _).mono ?_; rintro e w2 ⟨rfl, rfl⟩; rw [h])
    go_ret
    exact ⟨rfl, rfl⟩
theorem trim_any (l p : List UInt8) (w : World) : Calls Tryz.prog 125 #[.string (St l), .string (St p)] w fun e w' => e = .returned (.string (St (trimL p l))) ∧ w' = w := by
  go_enter Tryz.func125, Tryz.ntmps125
  go_wp2_with (go_at_call 145; refine (trim37 _ _ _).mono ?_; rintro e w2 ⟨rfl, rfl⟩)
  go_ret
  exact ⟨rfl, rfl⟩
end Go.Proofs.YtomnjckbgmbgmaaGreatDoor
