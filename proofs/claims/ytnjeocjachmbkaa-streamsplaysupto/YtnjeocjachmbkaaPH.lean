/-
  The register of the sum: one bit's step, eight of them, and what crc.through returns.
  What crc.More, crc.Sum, crc.Slot and the reference's return, for all bytes.
  What crc.Sum, crc.Slot, the reference's and the statements' own shown return.
  Bytes that a call makes for itself by append, and what string(b) gives.
-/
import Derived.Test.YtnjeocjachmbkaaPA
import Derived.WalkKit
import Derived.WalkSpells
import Derived.WalkLawsBesides
import Derived.Deep.RegionWith
import Derived.Deep.Light
import Derived.BigQuiet
import Derived.ChangeKeysEq
import Derived.Lib.SlBytesConst
import Derived.Laws.AppendOwnNone
import Derived.Laws.OwnMore
import Derived.OwnWalk
import Derived.Lib.SmallJoins
namespace Go.Proofs.Ytnjeocjachmbkaa
open Go.RowKit

abbrev W32 := BitVec 32
def u (x : W32) : Int := (x.toNat : Int)
def poly : W32 := 0x82f63b78
def stepB (x : W32) : W32 := (x >>> (1 : Nat)) ^^^ (poly &&& (-(x &&& 1)))
def iter (f : W32 → W32) : Nat → W32 → W32
  | 0, x => x
  | k + 1, x => f (iter f k x)
def thr (x : W32) : W32 := iter stepB 8 x
theorem u_range (x : W32) : 0 ≤ u x ∧ u x < 4294967296 := by unfold u; have := x.isLt; omega
theorem u_inj {x y : W32} (h : u x = u y) : x = y := by unfold u at h; apply BitVec.eq_of_toNat_eq; omega
theorem ofInt_u (x : W32) : BitVec.ofInt 32 (u x) = x := by
  unfold u; apply BitVec.eq_of_toNat_eq; simp
theorem wrap_u (x : W32) : IntKind.u32.wrap (u x) = u x := by
  have := u_range x
  unfold IntKind.wrap
  simp [IntKind.signed, IntKind.bits]
  exact Int.emod_eq_of_lt this.1 this.2
theorem bits_xor (x y : W32) : bits .xor .u32 (u x) (u y) = u (x ^^^ y) := by
  show IntKind.u32.wrap ((BitVec.ofInt 32 (u x) ^^^ BitVec.ofInt 32 (u y)).toNat : Int) = _
  rw [ofInt_u, ofInt_u]; exact wrap_u _
theorem bits_and (x y : W32) : bits .and .u32 (u x) (u y) = u (x &&& y) := by
  show IntKind.u32.wrap ((BitVec.ofInt 32 (u x) &&& BitVec.ofInt 32 (u y)).toNat : Int) = _
  rw [ofInt_u, ofInt_u]; exact wrap_u _
theorem u_half (x : W32) : u x / (2 : Int) = u (x >>> (1 : Nat)) := by
  unfold u; simp [BitVec.toNat_ushiftRight, Nat.shiftRight_succ]
theorem u_one : (1 : Int) = u 1 := rfl
theorem u_poly : (2197175160 : Int) = u poly := rfl
theorem u_neg (x : W32) : -(u x) % 4294967296 = u (-x) := by
  unfold u
  have := x.isLt
  rw [BitVec.toNat_neg]
  omega
theorem step_val (y : W32) : bits .xor .u32 (u y / 2) (bits .and .u32 2197175160 (-bits .and .u32 (u y) 1 % 4294967296)) = u (stepB y) := by
  rw [u_poly, u_half, show bits .and .u32 (u y) 1 = u (y &&& 1) from bits_and y 1, u_neg, bits_and, bits_xor]; rfl
theorem ret_u {a b : W32} (h : a = b) : Ending.returned (.int .u32 (u a)) = .returned (.int .u32 (u b)) := by rw [h]
set_option maxHeartbeats 400000 in
theorem through_any (x : W32) (w : World) : Calls Try.prog 65 #[.int .u32 (u x)] w fun e w' => e = .returned (.int .u32 (u (thr x))) ∧ w' = w := by
  generalize hr : thr x = r
  have HR := hid hr
  clear hr
  go_enter Try.func65, Try.ntmps65
  go_wp2
  go_loopw [0, 4] (fun r i wr => ∃ k : Nat, k ≤ 8 ∧ i = .int .i64 k ∧ r = .int .u32 (u (iter stepB k x)) ∧ wr = w) (fun _ i _ => 8 - (intOf i).toNat)
  case atStart => exact ⟨0, by omega, rfl, rfl, rfl⟩
  case round =>
    obtain ⟨k, hk, rfl, rfl, rfl⟩ := hrel
    generalize hy : iter stepB k x = y
    have HY := hid hy
    clear hy
    by_cases hlt : k < 8
    · go_wp2
      go_roundw
      case rel => exact ⟨k + 1, by omega, by go_num, by rw [step_val, ← HY.out]; rfl, by trivial⟩
      case measure => simp [intOf]; omega
    · have hk8 : k = 8 := by omega
      subst hk8
      go_wp2
      go_ret
      exact ⟨ret_u (by rw [← HY.out, ← HR.out]; rfl), rfl⟩
/- Over bytes: the register goes on. -/
def byteStep (r : W32) (c : UInt8) : W32 := thr (r ^^^ BitVec.ofNat 32 c.toNat)
def reg (r : W32) (xs : List UInt8) : W32 := xs.foldl byteStep r
def more (s : W32) (xs : List UInt8) : W32 := ~~~ (reg (~~~ s) xs)
theorem u_byte (c : UInt8) : (c.toNat : Int) = u (BitVec.ofNat 32 c.toNat) := by
  have := c.toNat_lt
  unfold u; simp
theorem u_not (x : W32) : bits .xor .u32 IntKind.u32.max (u x) = u (~~~ x) := by
  rw [show IntKind.u32.max = u (BitVec.allOnes 32) from rfl, bits_xor]
  congr 1
theorem more_append (s : W32) (xs ys : List UInt8) : more s (xs ++ ys) = more (more s xs) ys := by
  unfold more reg
  rw [List.foldl_append, BitVec.not_not]
theorem reg_snoc {xs : List UInt8} {k : Nat} {c : UInt8} (h : xs[k]? = some c) (r : W32) : reg r (xs.take (k + 1)) = byteStep (reg r (xs.take k)) c := by
  unfold reg
  rw [List.take_add_one, h]
  simp [List.foldl_append]
end Go.Proofs.Ytnjeocjachmbkaa
namespace Go.Proofs.Ytnjeocjachmbkaa
open Go.RowKit

/- A slice of these bytes. -/
def BAt (w : World) (v : Value) (xs : List UInt8) : Prop :=
  ∃ (p : Option Addr) (cap : Nat), v = .slice p xs.length cap ∧ xs.length ≤ cap ∧ (p = none → cap = 0) ∧ cap ≤ maxLen ∧ (xs ≠ [] → ∃ a, p = some a ∧ ∀ (j : Nat) x, xs[j]? = some x → w.cell? (a.add j) = some (.int .u8 (x.toNat : Int)))
theorem cell_onB {w w' : World} {a : Addr} {v : Value} (h : w.cell? a = some v) (hb : Below w.heap.size w w') : w'.cell? a = some v :=
  (hb.cell (block_lt_of_cell h)).trans h
theorem BAt.on {w w' : World} {v : Value} {xs : List UInt8} (h : BAt w v xs) (hb : Below w.heap.size w w') : BAt w' v xs := by
  obtain ⟨p, cap, hv, hc, hn, hm, hx⟩ := h
  exact ⟨p, cap, hv, hc, hn, hm, fun hne => let ⟨a, hp, hj⟩ := hx hne; ⟨a, hp, fun j x hjx => cell_onB (hj j x hjx) hb⟩⟩
theorem xor_byte (y : W32) (c : UInt8) : bits .xor .u32 (u y) ((c.toNat : Int) % 4294967296) = u (y ^^^ BitVec.ofNat 32 c.toNat) := by
  have := c.toNat_lt
  rw [show (c.toNat : Int) % 4294967296 = (c.toNat : Int) by omega, u_byte, bits_xor]
set_option maxHeartbeats 400000 in
theorem more_any {s : W32} {v : Value} {xs : List UInt8} {w : World} (hv : BAt w v xs) : Calls Try.prog 58 #[.int .u32 (u s), v] w fun e w' => e = .returned (.int .u32 (u (more s xs))) ∧ w' = w := by
  obtain ⟨p, cap, rfl, hcap, hnone, hmax, hx⟩ := hv
  unfold maxLen at hmax
  generalize hn : xs.length = n at *
  generalize hr : more s xs = r
  have HX := hid hx
  have HR := hid hr
  have HN := hid hn
  have hnot := u_not s
  clear hx hr hn
  go_enter Try.func58, Try.ntmps58
  go_wp2
  go_loopw [5, 12] (fun r i wr => ∃ k : Nat, k ≤ n ∧ i = .int .i64 k ∧ r = .int .u32 (u (reg (~~~ s) (xs.take k))) ∧ wr = w) (fun _ i _ => n - (intOf i).toNat)
  case atStart => exact ⟨0, by omega, rfl, rfl, rfl⟩
  case round =>
    obtain ⟨k, hk, rfl, rfl, rfl⟩ := hrel
    generalize hy : reg (~~~ s) (xs.take k) = y
    have HY := hid hy
    clear hy
    by_cases hlt : k < n
    · have hkc : k < xs.length := by rw [HN.out]; exact hlt
      obtain ⟨a, rfl, hj⟩ := HX.out (by intro e; subst e; simp at hkc)
      have hc := hj k _ (List.getElem?_eq_getElem hkc)
      have hxk : xs[k]? = some xs[k] := List.getElem?_eq_getElem hkc
      generalize xs[k] = c at hc hxk
      have HK := hid hxk
      clear hj hxk
      have hq := xor_byte y c
      go_wp2_with (go_at_call 65; refine (through_any (y ^^^ BitVec.ofNat 32 c.toNat) _).mono ?_; rintro e w' ⟨rfl, rfl⟩)
      go_roundw
      case rel => exact ⟨k + 1, by omega, by go_num, by rw [reg_snoc HK.out, HY.out]; rfl, by trivial⟩
      case measure => simp [intOf]; omega
    · have hks : k = n := by omega
      subst hks
      have hnot := u_not y
      go_wp2
      go_ret
      exact ⟨ret_u (by rw [← HR.out, ← HY.out, ← HN.out, List.take_length]; rfl), rfl⟩
theorem and_one (x : W32) : x &&& 1 = if x.toNat % 2 = 1 then 1 else 0 := by
  apply BitVec.eq_of_toNat_eq
  rw [BitVec.toNat_and]
  show x.toNat &&& 1 = _
  rw [Nat.and_one_is_mod]
  split <;> rename_i h
  · rw [h]; rfl
  · rw [show x.toNat % 2 = 0 by omega]; rfl
theorem step_odd {y : W32} (h : u y % 2 = 1) : bits .xor .u32 (u y / 2) 2197175160 = u (stepB y) := by
  rw [u_poly, u_half, bits_xor]
  congr 1
  unfold stepB
  rw [and_one, if_pos (by unfold u at h; omega), show -(1 : W32) = BitVec.allOnes 32 from rfl, BitVec.and_allOnes]
theorem step_even {y : W32} (h : u y % 2 = 0) : u y / 2 = u (stepB y) := by
  rw [u_half]
  congr 1
  unfold stepB
  rw [and_one, if_neg (by unfold u at h; omega), show -(0 : W32) = 0 from rfl]
  simp
theorem u_tmod (y : W32) : (u y).tmod 2 = u y % 2 := by
  have := u_range y
  exact Int.tmod_eq_emod_of_nonneg this.1
theorem test_even {y : W32} (h : u y % 2 = 0) : ((u y).tmod 2 == 1) = false := by rw [u_tmod, h]; rfl
theorem test_odd {y : W32} (h : u y % 2 = 1) : ((u y).tmod 2 == 1) = true := by rw [u_tmod, h]; rfl
end Go.Proofs.Ytnjeocjachmbkaa
namespace Go.Proofs.Ytnjeocjachmbkaa
open Go.RowKit

def sum (xs : List UInt8) : W32 := more 0 xs
theorem more0_any {v : Value} {xs : List UInt8} {w : World} (hv : BAt w v xs) : Calls Try.prog 58 #[.int .u32 0, v] w fun e w' => e = .returned (.int .u32 (u (sum xs))) ∧ w' = w := more_any (s := 0) hv
theorem sum_any {v : Value} {xs : List UInt8} {w : World} (hv : BAt w v xs) : Calls Try.prog 43 #[v] w fun e w' => e = .returned (.int .u32 (u (sum xs))) ∧ w' = w := by
  have HV := hid hv
  obtain ⟨p, cap, rfl, -, -, -, -⟩ := hv
  generalize hr : sum xs = r
  have HR := hid hr
  clear hr
  go_enter Try.func43, Try.ntmps43
  go_wp2_with (go_at_call 58; refine (more0_any HV.out).mono ?_; rintro e w' ⟨rfl, rfl⟩; rw [HR.out])
  go_ret
  exact ⟨rfl, rfl⟩
theorem sum_nil : u (sum []) = 0 := by kernel_rfl


theorem bat_nil (w : World) : BAt w (.slice none 0 0) [] := ⟨none, 0, rfl, by simp, fun _ => rfl, by simp [maxLen], fun h => absurd rfl h⟩


theorem callsTo {f : Nat} {args : Array Value} {w : World} {k : IntKind} {a b : Int} (h : Calls Try.prog f args w fun e w' => e = .returned (.int k a) ∧ w' = w) (e : a = b) : Calls Try.prog f args w fun e w' => e = .returned (.int k b) ∧ w' = w := by rw [← e]; exact h
theorem sum0 (w : World) : Calls Try.prog 43 #[.slice none 0 0] w fun e w' => e = .returned (.int .u32 0) ∧ w' = w := callsTo (sum_any (bat_nil w)) sum_nil

end Go.Proofs.Ytnjeocjachmbkaa
namespace Go.Proofs.Ytnjeocjachmbkaa
open Go.RowKit Go.Sort

theorem BAt.take {w : World} {p : Option Addr} {n k cap : Nat} {xs : List UInt8} (hn : xs.length = n) (hk : k ≤ n) (h : BAt w (.slice p n cap) xs) : BAt w (.slice p k cap) (xs.take k) := by
  obtain ⟨p', cap', hv, hc, hno, hm, hx⟩ := h
  cases hv
  have hl : (xs.take k).length = k := by simp; omega
  refine ⟨p, cap, by rw [hl], by omega, hno, hm, fun hne => ?_⟩
  obtain ⟨a, ha, hj⟩ := hx (by intro e; subst e; simp at hne)
  refine ⟨a, ha, fun j x hjx => hj j x ?_⟩
  have hlt : j < k := by have := (List.getElem?_eq_some_iff.1 hjx).1; omega
  rwa [List.getElem?_take_of_lt hlt] at hjx
theorem add_add (a : Addr) (k j : Nat) : (a.add k).add j = a.add (k + j) := by
  unfold Addr.add
  by_cases hk : k = 0
  · subst hk; simp
  · by_cases hj : j = 0
    · subst hj; simp [hk]
    · simp [hk, hj, Nat.add_assoc]
theorem BAt.drop {w : World} {p : Option Addr} {n k cap : Nat} {xs : List UInt8} (hn : xs.length = n) (hk : k ≤ n) (h : BAt w (.slice p n cap) xs) : BAt w (.slice (if cap = k then p else Option.map (fun x => x.add k) p) (n - k) (cap - k)) (xs.drop k) := by
  obtain ⟨p', cap', hv, hc, hno, hm, hx⟩ := h
  cases hv
  have hl : (xs.drop k).length = xs.length - k := by simp
  refine ⟨_, _, by rw [hl], by omega, ?_, by omega, fun hne => ?_⟩
  · intro e
    split at e
    · omega
    · cases p with
      | none => have := hno rfl; omega
      | some a => cases e
  · have hlt : k < xs.length := by
      rcases Nat.lt_or_ge k xs.length with h | h
      · exact h
      · exact absurd (List.drop_eq_nil_of_le h) hne
    obtain ⟨a, rfl, hj⟩ := hx (by intro e; subst e; simp at hlt)
    rw [if_neg (by omega)]
    refine ⟨a.add k, rfl, fun j x hjx => ?_⟩
    rw [add_add]
    exact hj _ x (by rw [List.getElem?_drop] at hjx; exact hjx)
def bc (x : UInt8) : Value := .int .u8 (x.toNat : Int)
theorem info5 : (Try.prog.info? 5).map (fun i => (i.zero, i.size, i.bytes)) = some (some (.int .u8 0), 1, 1) := by kernel_rfl
def OwnB (B : Nat) (w : World) (v : Value) (xs : List UInt8) : Prop := w.ownsRow B 5 1 v xs.length (xs.map bc)
theorem OwnB.made (B : Nat) (w : World) (hb : B ≤ w.heap.size) : OwnB B (w.alloc (.cells #[] 5)) (.slice (some ⟨w.heap.size, 0, none⟩) 0 0) [] :=
  World.ownsRow_made w #[] 0 hb (Nat.zero_le _) (by simp)
theorem OwnB.lt {B : Nat} {w : World} {v : Value} {xs : List UInt8} (h : OwnB B w v xs) : ∀ g, v.ownBlock = some g → B ≤ g := fun g hg => (World.ownsRow.lt h g hg).1
theorem OwnB.bat {B : Nat} {w : World} {v : Value} {xs : List UInt8} (h : OwnB B w v xs) : BAt w v xs := by
  rcases h.2 with ⟨hv, h0⟩ | ⟨g, cap, cur, hv, hg, hblk, hc, hm, _⟩
  · exact ⟨none, 0, by rw [hv, h0], by omega, fun _ => rfl, Nat.zero_le _, fun hne => absurd (List.eq_nil_of_length_eq_zero h0) hne⟩
  · exact ⟨some ⟨g, 0, none⟩, cap, hv, hc, (fun e => by cases e), hm, fun _ => ⟨_, rfl, fun j x hj => World.ownsRow.cells h (by rw [hv]; rfl) j _ (by rw [List.getElem?_map, hj]; rfl)⟩⟩
/- append(s, x...): s of the call's own, x any slice. -/
theorem appB_any {ops : Array Oper} {rest : List Oper} {o : Oper} {a : Act} {Q : Exit → Act → World → Prop} {w : World} {B : Nat} {xs ys : List UInt8} {v y : Value}
    (hgd : o.guard = none) (s x : Operand) (ho : o.op = .call { callee := .builtin .append, args := #[s, x], argTypes := #[22, 22] })
    (hs : a.eval s = v) (hown : OwnB B w v xs) (hx : a.eval x = y) (hu : BAt w y ys) (hb : xs.length + ys.length ≤ 140737488355328) (hB : B ≤ w.heap.size)
    (h : ∀ v' w', OwnB B w' v' (xs ++ ys) → Below B w w' → wpList Try.prog ops Q rest (a.put o.dst v') w') : wpList Try.prog ops Q (o :: rest) a w := by
  obtain ⟨i0, hi, hz0, hz1, hz2⟩ := info_parts info5
  obtain ⟨p, cap, rfl, hcap, hnone, hmax, hy⟩ := hu
  cases p with
  | none =>
    have hn : ys = [] := by
      cases ys with
      | nil => rfl
      | cons y r => obtain ⟨b, hp, _⟩ := hy (by simp); cases hp
    subst hn
    have hc := hnone rfl
    subst hc
    refine wpList_append_own_none hgd s x 22 ho B 5 i0 1 Try.underlying22 hi v xs.length _ hs hown (by rw [hx]; rfl) ?_
    exact h v w (by rw [List.append_nil]; exact hown) (Below.refl _ _)
  | some ad =>
    refine wpList_append_own w hgd s x 22 ho B 5 i0 (.int .u8 0) 1 1 Try.underlying22 hi hz0 hz1 hz2 rfl (by omega) v xs.length _ hs hown ad ys.length cap (ys.map bc) hx (by simp) ?_ ?_ ?_ (by omega) hB ?_
    · intro j c hj
      have hne : ys ≠ [] := by intro e; subst e; simp at hj
      obtain ⟨b, hp, hcell⟩ := hy hne
      cases hp
      rw [List.getElem?_map] at hj
      cases hyj : ys[j]? with
      | none => rw [hyj] at hj; cases hj
      | some x => rw [hyj] at hj; cases hj; exact hcell j x hyj
    · intro c hc
      obtain ⟨y, _, rfl⟩ := List.mem_map.1 hc
      rfl
    · unfold maxLen; omega
    · intro v' w' h2 h3 _
      refine h v' w' ?_ ((Below.refl B w).grown h3 hB (fun j e => (hown.lt j e)))
      show w'.ownsRow B 5 1 v' (xs ++ ys).length ((xs ++ ys).map bc)
      rw [List.length_append, List.map_append]; exact h2
theorem conv_bat {w : World} {p : Option Addr} {n cap : Nat} {xs : List UInt8} (h : BAt w (.slice p n cap) xs) : (convert 22 9 (.slice p n cap)).run Try.prog w = .ok (.string ⟨xs.toArray⟩) w := by
  obtain ⟨p', cap', hv, hcap, hnone, hmax, hx⟩ := h
  cases hv
  cases p with
  | none =>
    have hn : xs = [] := by
      cases xs with
      | nil => rfl
      | cons y r => obtain ⟨b, hp, _⟩ := hx (by simp); cases hp
    subst hn
    show (convert 22 9 (.slice none 0 cap)).run Try.prog w = _
    rw [run_convert_bytes_string w 22 9 5 none 0 cap Try.underlying22 Try.underlying5 Try.underlying9]
    simp [Conv.bytesToString]
    rfl
  | some a =>
    refine run_convert_bytes_back w 22 9 5 a cap xs Try.underlying22 Try.underlying5 Try.underlying9 fun j hj => ?_
    obtain ⟨b, hp, hc⟩ := hx (by intro e; subst e; simp at hj)
    cases hp
    exact hc j _ (List.getElem?_eq_getElem hj)
end Go.Proofs.Ytnjeocjachmbkaa
