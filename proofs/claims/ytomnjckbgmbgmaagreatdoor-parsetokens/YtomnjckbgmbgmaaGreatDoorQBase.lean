/-
  Texts as rows of bytes; what the small functions answer of a byte.
-/
import Derived.Test.YtomnjckbgmbgmaaGreatDoorProg
import Derived.Test.YtomnjckbgmbgmaaGreatDoorQLexM
import Derived.KernelRfl
import Derived.WalkKit
import Derived.WalkSpells
import Derived.WalkLawsBesides
import Derived.Deep.RegionWith
import Derived.Deep.Light
import Derived.BigQuiet
import Derived.ChangeKeysEq
import Derived.Handy
namespace Go.Proofs.YtomnjckbgmbgmaaGreatDoor
open Go.RowKit

theorem hid {p : Prop} (h : p) : Hid p := h
def St (l : List UInt8) : ByteArray := ⟨l.toArray⟩
theorem St_size (l : List UInt8) : (St l).size = l.length := by simp [St, ByteArray.size]
theorem St_toList (l : List UInt8) : (St l).data.toList = l := by simp [St]
theorem St_get (l : List UInt8) (k : Nat) (h : k < (St l).size) : (St l)[k] = l[k]'(by rw [← St_size]; exact h) := by
  simp [St, ByteArray.getElem_eq_getElem_data]
theorem St_of (s : ByteArray) : St s.data.toList = s := by cases s; rfl
theorem idx (l : List UInt8) (k : Nat) (h : k < l.length) (w : World) : (Instr.index 9 (.string (St l)) (.int .i64 (k : Int))).run Tryz.prog w = .ok (.int .u8 (l[k].toNat : Int)) w := by
  have hs := St_size l
  rw [run_index_string w 9 (St l) .i64 (k : Int) Tryz.underlying9, dif_pos ⟨by omega, by omega⟩]
  congr 3
theorem St_extract (l : List UInt8) (a b : Nat) : (St l).extract a b = St ((l.take b).drop a) := by
  unfold St
  apply ByteArray.ext
  simp only [ByteArray.data_extract]
  apply Array.toList_inj.1
  simp [List.extract, List.drop_take]
theorem slF (l : List UInt8) (k : Nat) (h : k ≤ l.length) (w : World) : (Instr.slice 9 (.string (St l)) (some (.int .i64 (k : Int))) none none).run Tryz.prog w = .ok (.string (St (l.drop k))) w := by
  have hs := St_size l
  rw [run_slice_string_from_if w 9 (St l) .i64 (k : Int) Tryz.underlying9, if_pos (by omega)]
  congr 2
  rw [show ((k : Int)).toNat = k by omega, hs, St_extract l k l.length, List.take_length]
theorem slT (l : List UInt8) (k : Nat) (h : k ≤ l.length) (w : World) : (Instr.slice 9 (.string (St l)) none (some (.int .i64 (k : Int))) none).run Tryz.prog w = .ok (.string (St (l.take k))) w := by
  have hs := St_size l
  rw [run_slice_string_to_if w 9 (St l) .i64 (k : Int) Tryz.underlying9, if_pos (by omega)]
  congr 2
  rw [show ((k : Int)).toNat = k by omega, St_extract l 0 k, List.drop_zero]

theorem isBl_any (c : UInt8) (w : World) : Calls Tryz.prog 64 #[.int .u8 (c.toNat : Int)] w fun e w' => e = .returned (.bool (isBl c)) ∧ w' = w := by
  go_enter Tryz.func64, Tryz.ntmps64
  go_wp2
  all_goals (go_ret; refine ⟨?_, rfl⟩; refine congrArg Ending.returned (congrArg Value.bool (Bool.eq_iff_iff.2 ?_)); simp [isBl]; try omega)
theorem isLe_any (c : UInt8) (w : World) : Calls Tryz.prog 99 #[.int .u8 (c.toNat : Int)] w fun e w' => e = .returned (.bool (isLe c)) ∧ w' = w := by
  go_enter Tryz.func99, Tryz.ntmps99
  go_wp2
  all_goals (go_ret; refine ⟨?_, rfl⟩; refine congrArg Ending.returned (congrArg Value.bool (Bool.eq_iff_iff.2 ?_)); simp [isLe]; try omega)
theorem isDg_any (c : UInt8) (w : World) : Calls Tryz.prog 101 #[.int .u8 (c.toNat : Int)] w fun e w' => e = .returned (.bool (isDg c)) ∧ w' = w := by
  go_enter Tryz.func101, Tryz.ntmps101
  go_wp2
  all_goals (go_ret; refine ⟨?_, rfl⟩; refine congrArg Ending.returned (congrArg Value.bool (Bool.eq_iff_iff.2 ?_)); simp [isDg]; try omega)
theorem nSl_any (c : UInt8) (w : World) : Calls Tryz.prog 127 #[.int .u8 (c.toNat : Int)] w fun e w' => e = .returned (.bool (nSl c)) ∧ w' = w := by
  go_enter Tryz.func127, Tryz.ntmps127
  go_wp2
  all_goals (go_ret; refine ⟨?_, rfl⟩; refine congrArg Ending.returned (congrArg Value.bool (Bool.eq_iff_iff.2 ?_)); simp [nSl]; try omega)
theorem isWd_any (c : UInt8) (w : World) : Calls Tryz.prog 124 #[.int .u8 (c.toNat : Int)] w fun e w' => e = .returned (.bool (isWd c)) ∧ w' = w := by
  go_enter Tryz.func124, Tryz.ntmps124
  go_wp2
  all_goals (go_ret; refine ⟨?_, rfl⟩; refine congrArg Ending.returned (congrArg Value.bool (Bool.eq_iff_iff.2 ?_)); simp [isWd]; try omega)
end Go.Proofs.YtomnjckbgmbgmaaGreatDoor
