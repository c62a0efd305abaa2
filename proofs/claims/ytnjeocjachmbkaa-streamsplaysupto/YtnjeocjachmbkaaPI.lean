/-
  Numbers as bytes: what wire.appendNumber and the reference's big return.
  What wire.appendText and wire.appendValue return, for every text and every value.
  The reader: what wire.demand and the reader's bytes and number return, or with what they panic.
  Numbers as bytes, there and back.
  The reader: what its number and text return, or with what they panic.
  The reader: what its text returns, or with what it panics.
  What wire.appendValue returns, for every value.
-/
import Derived.Test.YtnjeocjachmbkaaPB
import Derived.Test.YtnjeocjachmbkaaPH
import Derived.Lib.OwnKind
import Derived.Lib.AppendStr
namespace Go.Proofs.Ytnjeocjachmbkaa
open Go.RowKit Go.Sort

theorem OwnB.on {B : Nat} {w w' : World} {v : Value} {xs : List UInt8} (h : OwnB B w v xs) (hb : Below w.heap.size w w') : OwnB B w' v xs := by
  refine ⟨h.1, ?_⟩
  rcases h.2 with h0 | ⟨g, cap, cur, hv, hg, hblk, hc⟩
  · exact .inl h0
  · exact .inr ⟨g, cap, cur, hv, hg, block_on hblk hb, hc⟩
theorem OwnB.alloc {B : Nat} {w : World} {v : Value} {xs : List UInt8} (h : OwnB B w v xs) (o : Obj) : OwnB B (w.alloc o) v xs := World.ownsRow.alloc h o
theorem OwnB.nil (B : Nat) (w : World) : OwnB B w (.slice none 0 0) [] := World.ownsRow_nil w B 5 1
theorem OwnB.le {B B' : Nat} {w : World} {v : Value} {xs : List UInt8} (h : OwnB B w v xs) (hb : B' ≤ B) : OwnB B' w v xs := by
  refine ⟨h.1, ?_⟩
  rcases h.2 with h0 | ⟨g, cap, cur, hv, hg, hblk, hc⟩
  · exact .inl h0
  · exact .inr ⟨g, cap, cur, hv, Nat.le_trans hb hg, hblk, hc⟩
theorem OwnB.form {B : Nat} {w : World} {v : Value} {xs : List UInt8} (h : OwnB B w v xs) : ∃ p cap, v = .slice p xs.length cap := by
  obtain ⟨p, cap, hv, _⟩ := h.bat
  exact ⟨p, cap, hv⟩
theorem bat_one {w : World} {x : UInt8} {E : Int} (h : E = (x.toNat : Int)) : BAt (w.alloc (.cells #[.int .u8 E] 5)) (.slice (some ⟨w.heap.size, 0, none⟩) 1 1) [x] := by
  subst h
  refine ⟨_, 1, rfl, by simp, (fun h => by cases h), by unfold maxLen; decide, fun _ => ⟨_, rfl, fun j y hj => ?_⟩⟩
  have hlt : j < 1 := (List.getElem?_eq_some_iff.1 hj).1
  obtain rfl : j = 0 := by omega
  simp at hj
  subst hj
  simp [Addr.add]
/- Nothing below B is turned, and no block that does not hold bytes. -/
structure Fr (B : Nat) (w w' : World) : Prop where
  low : Below B w w'
  k5 : ∀ (k : Nat) (cs : Array Value) (t : TypeId) (fz : Nat × Nat), w.heap[k]? = some (.cells cs t fz) → t ≠ 5 → w'.heap[k]? = some (.cells cs t fz)
theorem Fr.refl (B : Nat) (w : World) : Fr B w w := ⟨Below.refl B w, fun _ _ _ _ h _ => h⟩
theorem Fr.trans {B : Nat} {a b c : World} (h : Fr B a b) (k : Fr B b c) : Fr B a c := ⟨h.low.trans k.low, fun j cs t fz hj ht => k.k5 j cs t fz (h.k5 j cs t fz hj ht) ht⟩
theorem Fr.alloc {B : Nat} {a w : World} (h : Fr B a w) (hB : B ≤ w.heap.size) (o : Obj) : Fr B a (w.alloc o) :=
  ⟨h.low.alloc hB o, fun j cs t fz hj ht => by have := h.k5 j cs t fz hj ht; rw [Below.heap_alloc _ _ _ (lt_of_block this)]; exact this⟩
theorem Fr.size {B : Nat} {w w' : World} (h : Fr B w w') : w.heap.size ≤ w'.heap.size := h.low.size
theorem Fr.of {B : Nat} {w w' : World} (h : Below w.heap.size w w') (hB : B ≤ w.heap.size) : Fr B w w' := ⟨h.mono hB, fun _ _ _ _ hj _ => block_on hj h⟩
theorem fr_grown {B : Nat} {w w' : World} {v : Value} {xs : List UInt8} (hown : OwnB B w v xs) (hg : w.grownBy w' v.ownBlock) (hB : B ≤ w.heap.size) : Fr B w w' :=
  ⟨(Below.refl B w).grown hg hB (fun j e => hown.lt j e), fun k cs t fz hk ht => by
    have hne : some k ≠ v.ownBlock := by
      intro e
      obtain ⟨c, fz', hc⟩ := Lib.ownsRow_kind hown k e.symm
      rw [hk] at hc
      cases hc
      exact ht rfl
    exact (hg.block k (lt_of_block hk) hne).trans hk⟩
theorem appF_any {ops : Array Oper} {rest : List Oper} {o : Oper} {a : Act} {Q : Exit → Act → World → Prop} {w : World} {B : Nat} {xs ys : List UInt8} {v y : Value}
    (hgd : o.guard = none) (s x : Operand) (ho : o.op = .call { callee := .builtin .append, args := #[s, x], argTypes := #[22, 22] })
    (hs : a.eval s = v) (hown : OwnB B w v xs) (hx : a.eval x = y) (hu : BAt w y ys) (hb : xs.length + ys.length ≤ 140737488355328) (hB : B ≤ w.heap.size)
    (h : ∀ v' w', OwnB B w' v' (xs ++ ys) → Fr B w w' → wpList Try.prog ops Q rest (a.put o.dst v') w') : wpList Try.prog ops Q (o :: rest) a w := by
  obtain ⟨i0, hi, hz0, hz1, hz2⟩ := info_parts info5
  obtain ⟨p, cap, rfl, hcap, hnone, hmax, hy⟩ := hu
  cases p with
  | none =>
    have hn : ys = [] := by
      cases ys with
      | nil => rfl
      | cons y r => obtain ⟨b, hp, _⟩ := hy (by simp); cases hp
    subst hn
    have hc := hnone rfl
    subst hc
    refine wpList_append_own_none hgd s x 22 ho B 5 i0 1 Try.underlying22 hi v xs.length _ hs hown (by rw [hx]; rfl) ?_
    exact h v w (by rw [List.append_nil]; exact hown) (Fr.refl _ _)
  | some ad =>
    refine wpList_append_own w hgd s x 22 ho B 5 i0 (.int .u8 0) 1 1 Try.underlying22 hi hz0 hz1 hz2 rfl (by omega) v xs.length _ hs hown ad ys.length cap (ys.map bc) hx (by simp) ?_ ?_ ?_ (by omega) hB ?_
    · intro j c hj
      have hne : ys ≠ [] := by intro e; subst e; simp at hj
      obtain ⟨b, hp, hcell⟩ := hy hne
      cases hp
      rw [List.getElem?_map] at hj
      cases hyj : ys[j]? with
      | none => rw [hyj] at hj; cases hj
      | some x => rw [hyj] at hj; cases hj; exact hcell j x hyj
    · intro c hc
      obtain ⟨y, _, rfl⟩ := List.mem_map.1 hc
      rfl
    · unfold maxLen; omega
    · intro v' w' h2 h3 _
      refine h v' w' ?_ (fr_grown hown h3 hB)
      show w'.ownsRow B 5 1 v' (xs ++ ys).length ((xs ++ ys).map bc)
      rw [List.length_append, List.map_append]; exact h2
def dig (n : Int) (k : Nat) : UInt8 := UInt8.ofNat ((n / 2 ^ (8 * k)) % 256).toNat
theorem dig_nat (n : Int) (k : Nat) : ((dig n k).toNat : Int) = (n / 2 ^ (8 * k)) % 256 := by
  unfold dig
  rw [UInt8.toNat_ofNat']
  generalize n / 2 ^ (8 * k) = m
  omega
def bigB (n : Int) : Nat → List UInt8
  | 0 => []
  | k + 1 => dig n k :: bigB n k
theorem bigB_len (n : Int) (k : Nat) : (bigB n k).length = k := by
  induction k with
  | zero => rfl
  | succ k ih => simp [bigB, ih]
set_option maxRecDepth 100000 in
set_option maxHeartbeats 400000 in
theorem appNum_any {v : Value} {xs : List UInt8} {n : Int} {width B : Nat} {w : World} (hv : OwnB B w v xs) (hw : width ≤ 8) (hB : B ≤ w.heap.size) (hl : xs.length + width ≤ 140737488355328) :
    Calls Try.prog 42 #[v, .int .i64 n, .int .i64 width] w fun e w' => ∃ v', e = .returned v' ∧ OwnB B w' v' (xs ++ bigB n width) ∧ Fr B w w' := by
  have HL := hid hl
  have HV := hid hv
  clear hl hv
  go_enter Try.func42, Try.ntmps42
  go_wp2
  go_loopw [0, 7] (fun b i wr => ∃ (k : Nat) (ys : List UInt8), k ≤ width ∧ (∃ j : Int, i = .int .i64 j ∧ j + 1 = (k : Int)) ∧ Hid (OwnB B wr b ys) ∧ Hid (ys ++ bigB n k = xs ++ bigB n width) ∧ Hid (Fr B w wr)) (fun _ i _ => ((intOf i) + 1).toNat)
  case atStart => exact ⟨width, xs, Nat.le_refl _, ⟨_, rfl, by omega⟩, HV.out, rfl, Fr.refl _ _⟩
  case round =>
    obtain ⟨k, ys, hk, ⟨j, rfl, hj⟩, HO, HE, HB⟩ := hrel
    cases k with
    | zero =>
      obtain rfl : j = -1 := by omega
      clear hj
      go_wp2
      go_ret
      exact ⟨_, rfl, by have := HE.out; simp only [bigB, List.append_nil] at this; rw [← this]; exact HO.out, HB.out⟩
    | succ k =>
      obtain rfl : j = (k : Int) := by omega
      clear hj
      have hlen : ys.length + 1 ≤ 140737488355328 := by have h1 := congrArg List.length HE.out; simp only [List.length_append, bigB_len] at h1; have := HL.out; omega
      have HLEN := hid hlen
      clear hlen
      go_wp2_with (at_builtin; refine appF_any rfl _ _ rfl rfl (HO.out.alloc _) rfl (bat_one (x := dig n k) (dig_nat n k).symm) HLEN.out (by have := HB.out.size; rw [World.size_alloc]; omega) ?_; intro v' w2 hown hb2)
      go_roundw
      case rel => exact ⟨k, ys ++ [dig n k], by omega, ⟨_, rfl, by omega⟩, hown, by rw [List.append_assoc]; exact HE.out, HB.out.trans (((Fr.refl B wr).alloc (Nat.le_trans hB HB.out.size) _).trans hb2)⟩
      case measure => simp [intOf]
set_option maxRecDepth 100000 in
set_option maxHeartbeats 400000 in
theorem rbig_any {v : Value} {xs : List UInt8} {n : Int} {width B : Nat} {w : World} (hv : OwnB B w v xs) (hw : width ≤ 8) (hB : B ≤ w.heap.size) (hl : xs.length + width ≤ 140737488355328) :
    Calls Try.prog 30 #[v, .int .i64 n, .int .i64 width] w fun e w' => ∃ v', e = .returned v' ∧ OwnB B w' v' (xs ++ bigB n width) ∧ Fr B w w' := by
  have HL := hid hl
  have HV := hid hv
  clear hl hv
  go_enter Try.func30, Try.ntmps30
  go_wp2
  go_loopw [0, 7] (fun b i wr => ∃ (k : Nat) (ys : List UInt8), k ≤ width ∧ (∃ j : Int, i = .int .i64 j ∧ j + 1 = (k : Int)) ∧ Hid (OwnB B wr b ys) ∧ Hid (ys ++ bigB n k = xs ++ bigB n width) ∧ Hid (Fr B w wr)) (fun _ i _ => ((intOf i) + 1).toNat)
  case atStart => exact ⟨width, xs, Nat.le_refl _, ⟨_, rfl, by omega⟩, HV.out, rfl, Fr.refl _ _⟩
  case round =>
    obtain ⟨k, ys, hk, ⟨j, rfl, hj⟩, HO, HE, HB⟩ := hrel
    cases k with
    | zero =>
      obtain rfl : j = -1 := by omega
      clear hj
      go_wp2
      go_ret
      exact ⟨_, rfl, by have := HE.out; simp only [bigB, List.append_nil] at this; rw [← this]; exact HO.out, HB.out⟩
    | succ k =>
      obtain rfl : j = (k : Int) := by omega
      clear hj
      have hlen : ys.length + 1 ≤ 140737488355328 := by have h1 := congrArg List.length HE.out; simp only [List.length_append, bigB_len] at h1; have := HL.out; omega
      have HLEN := hid hlen
      clear hlen
      go_wp2_with (at_builtin; refine appF_any rfl _ _ rfl rfl (HO.out.alloc _) rfl (bat_one (x := dig n k) (dig_nat n k).symm) HLEN.out (by have := HB.out.size; rw [World.size_alloc]; omega) ?_; intro v' w2 hown hb2)
      go_roundw
      case rel => exact ⟨k, ys ++ [dig n k], by omega, ⟨_, rfl, by omega⟩, hown, by rw [List.append_assoc]; exact HE.out, HB.out.trans (((Fr.refl B wr).alloc (Nat.le_trans hB HB.out.size) _).trans hb2)⟩
      case measure => simp [intOf]
end Go.Proofs.Ytnjeocjachmbkaa
namespace Go.Proofs.Ytnjeocjachmbkaa
open Go.RowKit Go.Sort

def txtB (s : ByteArray) : List UInt8 := bigB (s.size : Int) 1 ++ s.data.toList
theorem txtB_len (s : ByteArray) : (txtB s).length = s.size + 1 := by
  unfold txtB
  rw [List.length_append, bigB_len]
  show 1 + s.data.toList.length = _
  rw [Array.length_toList]; exact Nat.add_comm ..
def hisB (l : List Int) : List UInt8 := l.flatMap fun n => bigB n 8
theorem hisB_len (l : List Int) : (hisB l).length = 8 * l.length := by
  induction l with
  | nil => rfl
  | cons a l ih => simp only [hisB, List.flatMap_cons, List.length_append, bigB_len, List.length_cons] at *; omega
def valB (x : Vl) : List UInt8 :=
  if x.k = 1 then bigB x.n 8 else if x.k = 2 then txtB x.s else if x.k = 3 then bigB x.n 1 else hisB [x.h0, x.h1, x.h2, x.h3, x.h4, x.h5, x.h6, x.h7]
/- append(b, s...): b of the call's own, s a text. -/
theorem appS_any {ops : Array Oper} {rest : List Oper} {o : Oper} {a : Act} {Q : Exit → Act → World → Prop} {w : World} {B : Nat} {xs : List UInt8} {v : Value} {t : ByteArray}
    (hgd : o.guard = none) (s x : Operand) (ho : o.op = .call { callee := .builtin .append, args := #[s, x], argTypes := #[22, 9] })
    (hs : a.eval s = v) (hown : OwnB B w v xs) (hx : a.eval x = .string t) (hb : xs.length + t.size ≤ 140737488355328) (hB : B ≤ w.heap.size)
    (h : ∀ v' w', OwnB B w' v' (xs ++ t.data.toList) → Fr B w w' → wpList Try.prog ops Q rest (a.put o.dst v') w') : wpList Try.prog ops Q (o :: rest) a w := by
  obtain ⟨i0, hi, hz0, hz1, hz2⟩ := info_parts info5
  refine Lib.wpList_append_own_string (P := Try.prog) w hgd s x 22 9 ho B 5 i0 Try.underlying22 Try.underlying9 hi hz0 hz1 hz2 v xs.length _ hs hown t hx (by unfold maxLen; omega) hb hB ?_
  intro v' w' h2 h3 _
  refine h v' w' ?_ (fr_grown hown h3 hB)
  show w'.ownsRow B 5 1 v' (xs ++ t.data.toList).length ((xs ++ t.data.toList).map bc)
  rw [List.length_append, List.map_append, Array.length_toList]
  exact h2
set_option maxRecDepth 100000 in
set_option maxHeartbeats 400000 in
theorem appText_any {v : Value} {xs : List UInt8} {s : ByteArray} {B : Nat} {w : World} (hv : OwnB B w v xs) (hB : B ≤ w.heap.size) (hl : xs.length + (s.size + 1) ≤ 140737488355328) :
    Calls Try.prog 51 #[v, .string s] w fun e w' => ∃ v', e = .returned v' ∧ OwnB B w' v' (xs ++ txtB s) ∧ Fr B w w' := by
  have HV := hid hv
  have HL := hid hl
  clear hv hl
  go_enter Try.func51, Try.ntmps51
  go_wp2_with (first
    | (go_at_call 42; refine (appNum_any (width := 1) HV.out (by decide) hB (by have := HL.out; omega)).mono ?_; rintro e w1 ⟨v1, rfl, hown1, hb1⟩; have HO1 := hid hown1; have HB1 := hid hb1; clear hown1 hb1)
    | (at_builtin; refine appS_any rfl _ _ rfl rfl HO1.out rfl (by have := HL.out; rw [List.length_append, bigB_len]; omega) (Nat.le_trans hB HB1.out.size) ?_; intro v2 w2 hown2 hb2))
  go_ret
  exact ⟨_, rfl, by unfold txtB; rw [← List.append_assoc]; exact hown2, HB1.out.trans hb2⟩
end Go.Proofs.Ytnjeocjachmbkaa
namespace Go.Proofs.Ytnjeocjachmbkaa
open Go.RowKit Go.Sort

/- Nothing older is turned but one block. -/
structure Rd (rb : Nat) (w w' : World) : Prop where
  os : w'.os = w.os
  tape : w'.tape = w.tape
  output : w'.output = w.output
  size : w.heap.size ≤ w'.heap.size
  block : ∀ k, k < w.heap.size → k ≠ rb → w'.heap[k]? = w.heap[k]?
theorem Rd.refl (rb : Nat) (w : World) : Rd rb w w := ⟨rfl, rfl, rfl, Nat.le_refl _, fun _ _ _ => rfl⟩
theorem Rd.trans {rb : Nat} {a b c : World} (h : Rd rb a b) (k : Rd rb b c) : Rd rb a c :=
  ⟨k.os.trans h.os, k.tape.trans h.tape, k.output.trans h.output, Nat.le_trans h.size k.size, fun i hi hn => (k.block i (Nat.lt_of_lt_of_le hi h.size) hn).trans (h.block i hi hn)⟩
theorem Rd.of {rb : Nat} {w w' : World} (h : Below w.heap.size w w') : Rd rb w w' := ⟨h.os, h.tape, h.output, h.size, fun k hk _ => h.block k hk⟩
theorem Rd.below {rb B : Nat} {w w' : World} (h : Rd rb w w') (hr : B ≤ rb) (hB : B ≤ w.heap.size) : Below B w w' :=
  ⟨h.os, h.tape, h.output, h.size, fun k hk => h.block k (by omega) (by omega)⟩
theorem Rd.on {rb b : Nat} {w w' : World} {o : Obj} (h : Rd rb w w') (hb : w.heap[b]? = some o) (hne : b ≠ rb) : w'.heap[b]? = some o := (h.block b (lt_of_block hb) hne).trans hb
/- The reader in block rb, with these bytes left. -/
def RdAt (rb : Nat) (w : World) (xs : List UInt8) : Prop := ∃ v, w.heap[rb]? = some (.cells #[v] 73) ∧ BAt w v xs
theorem bat_apart {w : World} {a : Addr} {rb : Nat} {p : Option Addr} {n c : Nat} {t : Int} (hr : w.heap[rb]? = some (.cells #[.slice p n c] 73)) (h : w.cell? a = some (.int .u8 t)) : a.block ≠ rb := by
  intro e
  subst e
  obtain ⟨b, o, s⟩ := a
  have hs : s = none := World.cell?_spot h
  subst hs
  rw [block_cell hr] at h
  match o, h with
  | 0, h => simp at h
  | o + 1, h => simp at h
theorem BAt.rd {rb : Nat} {w w' : World} {v v0 : Value} {xs ys : List UInt8} (h : BAt w v xs) (hr : w.heap[rb]? = some (.cells #[v0] 73)) (h0 : BAt w v0 ys) (hw : Rd rb w w') : BAt w' v xs := by
  obtain ⟨p, cap, hv, hc, hn, hm, hx⟩ := h
  obtain ⟨p0, cap0, rfl, -⟩ := h0
  refine ⟨p, cap, hv, hc, hn, hm, fun hne => let ⟨a, hp, hj⟩ := hx hne; ⟨a, hp, fun j x hjx => ?_⟩⟩
  have hcell := hj j x hjx
  have hne := bat_apart hr hcell
  exact (World.cell?_of_block (hw.block _ (block_lt_of_cell hcell) hne)).trans hcell
theorem RdAt.rd {rb : Nat} {w w' : World} {xs : List UInt8} (h : RdAt rb w xs) (hw : Below w.heap.size w w') : RdAt rb w' xs := let ⟨v, h1, h2⟩ := h; ⟨v, block_on h1 hw, h2.on hw⟩
abbrev errB : Value := .iface 27 (.int .i64 40)
abbrev errK : Value := .iface 27 (.int .i64 10)
abbrev dies (v : Value) : Ending := .panicked [{ v := v, recovered := false }]
theorem demand_true {w : World} : Calls Try.prog 54 #[.bool true] w fun e w' => e = .returned (.tuple #[]) ∧ w' = w := by
  go_enter Try.func54, Try.ntmps54
  go_wp2
  go_end0
  exact ⟨rfl, rfl⟩
theorem demand_false {w : World} : Calls Try.prog 54 #[.bool false] w fun e w' => e = dies errB ∧ w' = w := by
  go_enter Try.func54, Try.ntmps54
  go_wp2
  exact ⟨rfl, rfl, rfl⟩
theorem set_block {w : World} {b i : Nat} {cs : Array Value} {t : TypeId} {fz : Nat × Nat} (h : w.heap[b]? = some (.cells cs t fz)) (u : Value) : (w.setCell ⟨b, i, none⟩ u).heap[b]? = some (.cells (cs.setIfInBounds i u) t fz) := by
  simp [World.setCell, Array.getElem?_modify, h]
theorem set_rd (w : World) (b i : Nat) (u : Value) : Rd b w (w.setCell ⟨b, i, none⟩ u) :=
  ⟨rfl, rfl, rfl, by rw [World.size_setCell]; exact Nat.le_refl _, fun k _ hn => Below.heap_setCell w _ u k hn⟩
theorem block_frozen {w : World} {b : Nat} {xs : Array Value} {t : TypeId} (h : w.heap[b]? = some (.cells xs t)) (o : Nat) : w.frozen? ⟨b, o, none⟩ = false := by
  simp [World.frozen?, h]
theorem bytes_end {rb n l cap : Nat} {p : Option Addr} {w : World} {xs : List UInt8} {v' : Value} (hb : w.heap[rb]? = some (.cells #[.slice p l cap] 73)) (hv : BAt w (.slice p l cap) xs) (hT : BAt w (.slice p n cap) (xs.take n)) (hD : BAt w v' (xs.drop n)) :
    BAt (w.setCell ⟨rb, 0, none⟩ v') (.slice p n cap) (xs.take n) ∧ RdAt rb (w.setCell ⟨rb, 0, none⟩ v') (xs.drop n) ∧ Rd rb w (w.setCell ⟨rb, 0, none⟩ v') :=
  ⟨hT.rd hb hv (set_rd w rb 0 v'), ⟨v', set_block hb v', hD.rd hb hv (set_rd w rb 0 v')⟩, set_rd w rb 0 v'⟩
set_option maxRecDepth 100000 in
set_option maxHeartbeats 400000 in
theorem bytes_yes {rb n : Nat} {w : World} {xs : List UInt8} (h : RdAt rb w xs) (hn : n ≤ xs.length) :
    Calls Try.prog 59 #[.pointer (some ⟨rb, 0, none⟩), .int .i64 n] w fun e w' => ∃ v', e = .returned v' ∧ BAt w' v' (xs.take n) ∧ RdAt rb w' (xs.drop n) ∧ Rd rb w w' := by
  obtain ⟨v, hb, hv⟩ := h
  have HB := hid hb
  have HV := hid hv
  have hc := block_cell hb
  have hz := block_frozen hb
  obtain ⟨p, cap, rfl, hcap, hnone, hmax, -⟩ := hv
  unfold maxLen at hmax
  generalize hl : xs.length = l at *
  have HL := hid hl
  clear hb hl
  have hle : (n : Int) ≤ (l : Int) := by omega
  have HT := hid (BAt.take HL.out hn HV.out)
  have hd := BAt.drop HL.out hn HV.out
  by_cases hcn : cap = n
  · subst hcn
    rw [if_pos rfl, Nat.sub_self, show l - cap = 0 by omega] at hd
    have HD := hid hd
    clear hd
    go_enter Try.func59, Try.ntmps59
    go_wp2_with (first
      | (go_at_call 54; refine demand_true.mono ?_; rintro e w1 ⟨rfl, rfl⟩))
    go_ret
    exact ⟨_, rfl, bytes_end HB.out HV.out HT.out HD.out⟩
  · rw [if_neg hcn] at hd
    have HD := hid hd
    clear hd
    go_enter Try.func59, Try.ntmps59
    go_wp2_with (first
      | (go_at_call 54; refine demand_true.mono ?_; rintro e w1 ⟨rfl, rfl⟩))
    go_ret
    exact ⟨_, rfl, bytes_end HB.out HV.out HT.out HD.out⟩
set_option maxRecDepth 100000 in
set_option maxHeartbeats 400000 in
theorem bytes_no {rb n : Nat} {w : World} {xs : List UInt8} (h : RdAt rb w xs) (hn : xs.length < n) :
    Calls Try.prog 59 #[.pointer (some ⟨rb, 0, none⟩), .int .i64 n] w fun e w' => e = dies errB ∧ w' = w := by
  obtain ⟨v, hb, hv⟩ := h
  have hc := block_cell hb
  obtain ⟨p, cap, rfl, hcap, hnone, hmax, -⟩ := hv
  unfold maxLen at hmax
  generalize hl : xs.length = l at *
  have HL := hid hl
  clear hb hl
  have hle : decide (n ≤ l) = false := by simp; omega
  go_enter Try.func59, Try.ntmps59
  go_wp2_with (first
    | (go_at_call 54; refine demand_false.mono ?_; rintro e w1 ⟨rfl, rfl⟩))
  exact ⟨rfl, rfl, rfl⟩
end Go.Proofs.Ytnjeocjachmbkaa
namespace Go.Proofs.Ytnjeocjachmbkaa
open Go.RowKit Go.Sort

def numS (n : Int) (c : UInt8) : Int := bits .or .i64 (wrap64 (n * 256)) (wrap64 (c.toNat : Int))
def numB (xs : List UInt8) : Int := xs.foldl numS 0
theorem numB_snoc {xs : List UInt8} {k : Nat} {c : UInt8} (h : xs[k]? = some c) : numB (xs.take (k + 1)) = numS (numB (xs.take k)) c := by
  unfold numB
  rw [List.take_add_one, h]
  simp [List.foldl_append]
theorem wrap_i64 (n : Int) : IntKind.i64.wrap n = wrap64 n := by
  unfold IntKind.wrap wrap64
  simp [IntKind.signed, IntKind.bits]
  split <;> omega
theorem or_byte (m : Int) (c : UInt8) : bits .or .i64 (wrap64 (m * 256)) (wrap64 (c.toNat : Int)) = wrap64 (m * 256) + (c.toNat : Int) := by
  have hc := c.toNat_lt
  show IntKind.i64.wrap ((BitVec.ofInt 64 (wrap64 (m * 256)) ||| BitVec.ofInt 64 (wrap64 (c.toNat : Int))).toNat : Int) = _
  rw [wrap_i64, BitVec.toNat_or, BitVec.toNat_ofInt, BitVec.toNat_ofInt]
  have h2 : (wrap64 (c.toNat : Int) % ((2 ^ 64 : Nat) : Int)).toNat = c.toNat := by unfold wrap64; omega
  rw [h2]
  obtain ⟨q, hq⟩ : ∃ q : Nat, (wrap64 (m * 256) % ((2 ^ 64 : Nat) : Int)).toNat = 2 ^ 8 * q := ⟨(wrap64 (m * 256) % ((2 ^ 64 : Nat) : Int)).toNat / 256, by unfold wrap64; omega⟩
  rw [hq, ← Nat.two_pow_add_eq_or_of_lt hc, ← hq]
  unfold wrap64
  omega
def natR : List UInt8 → Int
  | [] => 0
  | c :: xs => (c.toNat : Int) * 256 ^ xs.length + natR xs
theorem pos256 (k : Nat) : (0 : Int) < 256 ^ k := Int.pow_pos (by decide)
theorem natR_range (xs : List UInt8) : 0 ≤ natR xs ∧ natR xs < 256 ^ xs.length := by
  induction xs with
  | nil => simp [natR]
  | cons c xs ih =>
    have hc := c.toNat_lt
    have hp := pos256 xs.length
    simp only [natR, List.length_cons, Int.pow_succ]
    generalize (256 : Int) ^ xs.length = P at *
    have h1 : (c.toNat : Int) * P ≤ 255 * P := Int.mul_le_mul_of_nonneg_right (by omega) (by omega)
    have h2 : 0 ≤ (c.toNat : Int) * P := Int.mul_nonneg (by omega) (by omega)
    constructor <;> omega
theorem numS_wrap (N : Int) (c : UInt8) : numS (wrap64 N) c = wrap64 (N * 256 + (c.toNat : Int)) := by
  have hc := c.toNat_lt
  unfold numS
  rw [or_byte]
  unfold wrap64
  omega
theorem fold_wrap (xs : List UInt8) : ∀ N : Int, xs.foldl numS (wrap64 N) = wrap64 (N * 256 ^ xs.length + natR xs) := by
  induction xs with
  | nil => intro N; simp [natR]
  | cons c xs ih =>
    intro N
    rw [List.foldl_cons, numS_wrap, ih]
    simp only [natR, List.length_cons, Int.pow_succ]
    congr 1
    rw [Int.add_mul, Int.mul_assoc, Int.mul_comm 256, ← Int.mul_assoc, Int.add_assoc]
theorem numB_wrap (xs : List UInt8) : numB xs = wrap64 (natR xs) := by
  have := fold_wrap xs 0
  rw [Int.zero_mul, Int.zero_add, show wrap64 0 = 0 by unfold wrap64; omega] at this
  exact this
theorem pow_eight (k : Nat) : (2 : Int) ^ (8 * k) = 256 ^ k := by rw [Int.pow_mul]; rfl
theorem dig_nat' (n : Int) (k : Nat) : ((dig n k).toNat : Int) = (n / 256 ^ k) % 256 := by rw [dig_nat, pow_eight]
theorem emod_mul' (n a : Int) (ha : 0 < a) : n % (a * 256) = (n / a) % 256 * a + n % a := by
  have h1 := Int.mul_ediv_add_emod n a
  have h2 := Int.mul_ediv_add_emod (n / a) 256
  have h3 := Int.emod_nonneg n (b := a) (by omega)
  have h4 := Int.emod_lt_of_pos n ha
  generalize hr : n % a = r at *
  generalize hq : n / a = q at *
  generalize hd : q % 256 = d at *
  generalize q / 256 = t at *
  have hd0 : 0 ≤ d ∧ d < 256 := by subst hd; exact ⟨Int.emod_nonneg _ (by decide), Int.emod_lt_of_pos _ (by decide)⟩
  have e : (d * a + r) + (a * 256) * t = n := by rw [← h1, ← h2, Int.mul_add, Int.mul_assoc, Int.mul_comm d a]; omega
  have b0 : 0 ≤ d * a := Int.mul_nonneg hd0.1 (by omega)
  have b1 : d * a ≤ 255 * a := Int.mul_le_mul_of_nonneg_right (by omega) (by omega)
  exact ((Int.ediv_emod_unique (by omega)).2 ⟨e, by omega, by omega⟩).2
theorem natR_bigB (n : Int) (k : Nat) : natR (bigB n k) = n % 256 ^ k := by
  induction k with
  | zero => simp [bigB, natR, Int.emod_one]
  | succ k ih => rw [bigB, natR, bigB_len, ih, dig_nat', Int.pow_succ, emod_mul' _ _ (pos256 k)]
theorem bigB_natR (xs : List UInt8) : ∀ t : Int, bigB (natR xs + t * 256 ^ xs.length) xs.length = xs := by
  induction xs with
  | nil => intro t; rfl
  | cons c xs ih =>
    intro t
    have hr := natR_range xs
    have hc := c.toNat_lt
    have hp := pos256 xs.length
    have e : natR (c :: xs) + t * 256 ^ (c :: xs).length = natR xs + ((c.toNat : Int) + t * 256) * 256 ^ xs.length := by
      simp only [natR, List.length_cons, Int.pow_succ, Int.add_mul]
      rw [Int.mul_comm (256 ^ xs.length) 256, ← Int.mul_assoc]
      omega
    rw [e, List.length_cons, bigB, ih]
    congr 1
    apply UInt8.toNat_inj.1
    have h := dig_nat' (natR xs + ((c.toNat : Int) + t * 256) * 256 ^ xs.length) xs.length
    have hdiv : (natR xs + ((c.toNat : Int) + t * 256) * 256 ^ xs.length) / 256 ^ xs.length = (c.toNat : Int) + t * 256 :=
      ((Int.ediv_emod_unique hp).2 ⟨by rw [Int.mul_comm (256 ^ xs.length)], hr.1, hr.2⟩).1
    rw [hdiv] at h
    omega
theorem wrap_some (n : Int) : ∃ t : Int, wrap64 n = n + t * 18446744073709551616 := ⟨-((n + 9223372036854775808) / 18446744073709551616), by unfold wrap64; omega⟩
theorem bigB_numB {xs : List UInt8} (h : xs.length ≤ 8) : bigB (numB xs) xs.length = xs := by
  rw [numB_wrap]
  obtain ⟨t, ht⟩ := wrap_some (natR xs)
  rw [ht]
  have e : t * 18446744073709551616 = (t * 256 ^ (8 - xs.length)) * 256 ^ xs.length := by
    rw [Int.mul_assoc, ← Int.pow_add, show 8 - xs.length + xs.length = 8 by omega]; rfl
  rw [e]
  exact bigB_natR xs _
theorem numB_bigB8 {n : Int} (h0 : -9223372036854775808 ≤ n) (h1 : n ≤ 9223372036854775807) : numB (bigB n 8) = n := by
  rw [numB_wrap, natR_bigB, show (256 : Int) ^ 8 = 18446744073709551616 from rfl]
  unfold wrap64
  omega
theorem numB_bigB {n : Int} {k : Nat} (hk : k ≤ 4) (h0 : 0 ≤ n) (h1 : n < 256 ^ k) : numB (bigB n k) = n := by
  rw [numB_wrap, natR_bigB, Int.emod_eq_of_lt h0 h1]
  have h2 : n < 4294967296 := by
    rcases (show k = 0 ∨ k = 1 ∨ k = 2 ∨ k = 3 ∨ k = 4 by omega) with rfl | rfl | rfl | rfl | rfl <;> simp at h1 <;> omega
  unfold wrap64
  omega
theorem numB_range {xs : List UInt8} (h : xs.length ≤ 4) : 0 ≤ numB xs ∧ numB xs < 256 ^ xs.length := by
  have hr := natR_range xs
  have hk : (256 : Int) ^ xs.length ≤ 4294967296 := by
    generalize xs.length = k at *
    rcases (show k = 0 ∨ k = 1 ∨ k = 2 ∨ k = 3 ∨ k = 4 by omega) with rfl | rfl | rfl | rfl | rfl <;> decide
  rw [numB_wrap]
  generalize (256 : Int) ^ xs.length = P at *
  unfold wrap64
  omega
theorem numB_ok (xs : List UInt8) : -9223372036854775808 ≤ numB xs ∧ numB xs ≤ 9223372036854775807 := by
  rw [numB_wrap]; unfold wrap64; omega
end Go.Proofs.Ytnjeocjachmbkaa
namespace Go.Proofs.Ytnjeocjachmbkaa
open Go.RowKit Go.Sort

set_option maxRecDepth 100000 in
set_option maxHeartbeats 400000 in
theorem number_yes {rb n : Nat} {w : World} {xs : List UInt8} (h : RdAt rb w xs) (hn : n ≤ xs.length) :
    Calls Try.prog 52 #[.pointer (some ⟨rb, 0, none⟩), .int .i64 n] w fun e w' => e = .returned (.int .i64 (numB (xs.take n))) ∧ RdAt rb w' (xs.drop n) ∧ Rd rb w w' := by
  have HX := hid h
  have HN := hid hn
  clear h hn
  have hlen : (xs.take n).length = n := by have := HN.out; simp; omega
  go_enter Try.func52, Try.ntmps52
  go_wp2_with (first
    | (go_at_call 59; refine (bytes_yes HX.out HN.out).mono ?_; rintro e w1 ⟨v1, rfl, hb1, hr1, hw1⟩; have HB1 := hid hb1; have HR1 := hid hr1; have HW1 := hid hw1; obtain ⟨p, cap, rfl, hcap, hnone, hmax, hx⟩ := hb1; unfold maxLen at hmax; generalize hys : List.take n xs = ys at *; generalize hl : ys.length = l at *; have HL := hid hl; have HXs := hid hx; have HYS := hid hys; clear hl hx hr1 hw1 hys hlen))
  go_loopw [5, 12] (fun s i wr => ∃ k : Nat, k ≤ l ∧ i = .int .i64 k ∧ s = .int .i64 (numB (ys.take k)) ∧ wr = w1) (fun _ i _ => l - (intOf i).toNat)
  case atStart => exact ⟨0, by omega, rfl, rfl, rfl⟩
  case round =>
    obtain ⟨k, hk, rfl, rfl, rfl⟩ := hrel
    generalize hy : numB (ys.take k) = y
    have HY := hid hy
    clear hy
    by_cases hlt : k < l
    · have hkc : k < ys.length := by rw [HL.out]; exact hlt
      obtain ⟨a, rfl, hj⟩ := HXs.out (by intro e; subst e; simp at hkc)
      have hc := hj k _ (List.getElem?_eq_getElem hkc)
      have hxk : ys[k]? = some ys[k] := List.getElem?_eq_getElem hkc
      generalize ys[k] = c at hc hxk
      have HK := hid hxk
      clear hj hxk
      go_wp2
      go_roundw
      case rel => exact ⟨k + 1, by omega, by go_num, by rw [numB_snoc HK.out, HY.out]; rfl, by trivial⟩
      case measure => simp [intOf]; omega
    · have hks : k = l := by omega
      subst hks
      go_wp2
      go_ret
      exact ⟨by rw [← HY.out, ← HL.out, List.take_length, HYS.out]; rfl, HR1.out, HW1.out⟩
set_option maxRecDepth 100000 in
set_option maxHeartbeats 400000 in
theorem number_no {rb n : Nat} {w : World} {xs : List UInt8} (h : RdAt rb w xs) (hn : xs.length < n) :
    Calls Try.prog 52 #[.pointer (some ⟨rb, 0, none⟩), .int .i64 n] w fun e w' => e = dies errB ∧ w' = w := by
  have HX := hid h
  have HN := hid hn
  clear h hn
  go_enter Try.func52, Try.ntmps52
  go_wp2_with (first
    | (go_at_call 59; refine (bytes_no HX.out HN.out).mono ?_; rintro e w1 ⟨rfl, rfl⟩))
  exact ⟨rfl, rfl, rfl⟩
end Go.Proofs.Ytnjeocjachmbkaa
namespace Go.Proofs.Ytnjeocjachmbkaa
open Go.RowKit Go.Sort

theorem numB_one (c : UInt8) : numB [c] = (c.toNat : Int) := by
  have := c.toNat_lt
  rw [numB_wrap, natR, natR]
  simp only [List.length_nil, Int.pow_zero]
  unfold wrap64
  omega
theorem number_one {rb : Nat} {w : World} {c : UInt8} {xs : List UInt8} (h : RdAt rb w (c :: xs)) :
    Calls Try.prog 52 #[.pointer (some ⟨rb, 0, none⟩), .int .i64 1] w fun e w' => e = .returned (.int .i64 (c.toNat : Int)) ∧ RdAt rb w' xs ∧ Rd rb w w' := by
  have := number_yes (n := 1) h (by simp)
  rw [show List.take 1 (c :: xs) = [c] from rfl, numB_one] at this
  exact this
theorem dies_rd {f rb : Nat} {args : Array Value} {w : World} {v : Value} (h : Calls Try.prog f args w fun e w' => e = dies v ∧ w' = w) : Calls Try.prog f args w fun e w' => e = dies v ∧ Rd rb w w' :=
  h.mono (by rintro e w' ⟨rfl, rfl⟩; exact ⟨rfl, Rd.refl _ _⟩)
set_option maxRecDepth 100000 in
set_option maxHeartbeats 400000 in
theorem text_yes {rb : Nat} {w : World} {c : UInt8} {xs : List UInt8} (h : RdAt rb w (c :: xs)) (hn : c.toNat ≤ xs.length) :
    Calls Try.prog 53 #[.pointer (some ⟨rb, 0, none⟩)] w fun e w' => e = .returned (.string ⟨(xs.take c.toNat).toArray⟩) ∧ RdAt rb w' (xs.drop c.toNat) ∧ Rd rb w w' := by
  have HX := hid h
  have HN := hid hn
  clear h hn
  have hc := c.toNat_lt
  generalize hcn : c.toNat = n at *
  have HC := hid hcn
  clear hcn
  go_enter Try.func53, Try.ntmps53
  go_wp2_with (first
    | (go_at_call 52; refine (number_one HX.out).mono ?_; rintro e w1 ⟨rfl, hr1, hw1⟩; rw [HC.out]; have HR1 := hid hr1; have HW1 := hid hw1; clear hr1 hw1)
    | (go_at_call 59; refine (bytes_yes HR1.out HN.out).mono ?_; rintro e w2 ⟨v2, rfl, hb2, hr2, hw2⟩; have HB2 := hid hb2; have HR2 := hid hr2; have HW2 := hid hw2; obtain ⟨p, cap, rfl, -, -, -, -⟩ := hb2; generalize hys : List.take n xs = ys at *; have K := conv_bat HB2.out; have HYS := hid hys; clear hr2 hw2 hys))
  go_ret
  exact ⟨by rw [HYS.out]; rfl, HR2.out, HW1.out.trans HW2.out⟩
set_option maxRecDepth 100000 in
set_option maxHeartbeats 400000 in
theorem text_short {rb : Nat} {w : World} {c : UInt8} {xs : List UInt8} (h : RdAt rb w (c :: xs)) (hn : xs.length < c.toNat) :
    Calls Try.prog 53 #[.pointer (some ⟨rb, 0, none⟩)] w fun e w' => e = dies errB ∧ Rd rb w w' := by
  have HX := hid h
  have HN := hid hn
  clear h hn
  have hc := c.toNat_lt
  generalize hcn : c.toNat = n at *
  have HC := hid hcn
  clear hcn
  go_enter Try.func53, Try.ntmps53
  go_wp2_with (first
    | (go_at_call 52; refine (number_one HX.out).mono ?_; rintro e w1 ⟨rfl, hr1, hw1⟩; rw [HC.out]; have HR1 := hid hr1; have HW1 := hid hw1; clear hr1 hw1)
    | (go_at_call 59; refine (bytes_no HR1.out HN.out).mono ?_; rintro e w2 ⟨rfl, rfl⟩))
  exact ⟨rfl, rfl, HW1.out⟩
set_option maxRecDepth 100000 in
set_option maxHeartbeats 400000 in
theorem text_none {rb : Nat} {w : World} (h : RdAt rb w []) :
    Calls Try.prog 53 #[.pointer (some ⟨rb, 0, none⟩)] w fun e w' => e = dies errB ∧ Rd rb w w' := by
  have HX := hid h
  clear h
  go_enter Try.func53, Try.ntmps53
  go_wp2_with (first
    | (go_at_call 52; refine (number_no (n := 1) HX.out (by decide)).mono ?_; rintro e w1 ⟨rfl, rfl⟩))
  exact ⟨rfl, rfl, Rd.refl _ _⟩
end Go.Proofs.Ytnjeocjachmbkaa
namespace Go.Proofs.Ytnjeocjachmbkaa
open Go.RowKit Go.Sort

abbrev vcl (x : Vl) : Array Value := #[.int .i64 x.k, .int .i64 x.n, .string x.s, .int .i64 x.h0, .int .i64 x.h1, .int .i64 x.h2, .int .i64 x.h3, .int .i64 x.h4, .int .i64 x.h5, .int .i64 x.h6, .int .i64 x.h7]
theorem valB_1 {x : Vl} (h : x.k = 1) : valB x = bigB x.n 8 := by simp [valB, h]
theorem valB_2 {x : Vl} (h : x.k = 2) : valB x = txtB x.s := by simp [valB, h]
theorem valB_3 {x : Vl} (h : x.k = 3) : valB x = bigB x.n 1 := by simp [valB, h]
theorem valB_4 {x : Vl} (h1 : ¬ x.k = 1) (h2 : ¬ x.k = 2) (h3 : ¬ x.k = 3) : valB x = hisB [x.h0, x.h1, x.h2, x.h3, x.h4, x.h5, x.h6, x.h7] := by simp [valB, h1, h2, h3]
theorem Fr.alloc1 {B : Nat} {w : World} (hB : B ≤ w.heap.size) (o : Obj) : Fr B w (w.alloc o) := (Fr.refl B w).alloc hB o
theorem index42 (a0 a1 a2 a3 a4 a5 a6 a7 : Int) (k : Nat) (hk : k < 8) (w : World) : (Instr.index 23 (H8 a0 a1 a2 a3 a4 a5 a6 a7) (.int .i64 k)).run Try.prog w = .ok (.int .i64 (nth8 a0 a1 a2 a3 a4 a5 a6 a7 k)) w := by
  have u3 := Try.underlying3
  have u42 := Try.underlying23
  have z3 := Try.sizeOf3
  have g3 := Try.isAgg3
  rcases lt8 hk with rfl | rfl | rfl | rfl | rfl | rfl | rfl | rfl <;> simp [Instr.index, go_sem, nth8]
theorem his_take (a0 a1 a2 a3 a4 a5 a6 a7 : Int) (k : Nat) (hk : k < 8) : hisB (List.take (k + 1) [a0, a1, a2, a3, a4, a5, a6, a7]) = hisB (List.take k [a0, a1, a2, a3, a4, a5, a6, a7]) ++ bigB (nth8 a0 a1 a2 a3 a4 a5 a6 a7 k) 8 := by
  rcases lt8 hk with rfl | rfl | rfl | rfl | rfl | rfl | rfl | rfl <;> simp [hisB, nth8]
set_option maxRecDepth 100000 in
set_option maxHeartbeats 1000000 in
theorem appVal_any {v : Value} {xs : List UInt8} {x : Vl} {B : Nat} {w : World} (hv : OwnB B w v xs) (hB : B ≤ w.heap.size) (hl : xs.length + (x.s.size + 100) ≤ 140737488355328) :
    Calls Try.prog 27 #[v, x.val] w fun e w' => ∃ v', e = .returned v' ∧ OwnB B w' v' (xs ++ valB x) ∧ Fr B w w' := by
  have HL := hid hl
  have HV := hid (hv.alloc (.cells (vcl x) 25))
  have HB := hid (Fr.alloc1 hB (.cells (vcl x) 25))
  have HS : Hid (B ≤ (w.alloc (.cells (vcl x) 25)).heap.size) := by rw [World.size_alloc]; exact Nat.le_succ_of_le hB
  clear hv hl
  generalize hr : valB x = r
  have HR := hid hr
  clear hr
  by_cases h1 : x.k = 1
  · have e1 : (x.k == 1) = true := by simpa using h1
    have H1 := hid (valB_1 h1)
    clear h1
    go_enter Try.func27, Try.ntmps27
    go_wp2_with (first
      | (go_at_call 42; refine (appNum_any (width := 8) HV.out (by decide) HS.out (by have := HL.out; omega)).mono ?_; rintro e w1 ⟨v1, rfl, hown1, hb1⟩))
    go_ret
    exact ⟨_, rfl, by rw [← HR.out, H1.out]; exact hown1, HB.out.trans hb1⟩
  · by_cases h2 : x.k = 2
    · have e1 : (x.k == 1) = false := by simpa using h1
      have e2 : (x.k == 2) = true := by simpa using h2
      have H1 := hid (valB_2 h2)
      clear h1 h2
      go_enter Try.func27, Try.ntmps27
      go_wp2_with (first
        | (go_at_call 51; refine (appText_any HV.out HS.out (by have := HL.out; omega)).mono ?_; rintro e w1 ⟨v1, rfl, hown1, hb1⟩))
      go_ret
      exact ⟨_, rfl, by rw [← HR.out, H1.out]; exact hown1, HB.out.trans hb1⟩
    · by_cases h3 : x.k = 3
      · have e1 : (x.k == 1) = false := by simpa using h1
        have e2 : (x.k == 2) = false := by simpa using h2
        have e3 : (x.k == 3) = true := by simpa using h3
        have H1 := hid (valB_3 h3)
        clear h1 h2 h3
        go_enter Try.func27, Try.ntmps27
        go_wp2_with (first
          | (go_at_call 42; refine (appNum_any (width := 1) HV.out (by decide) HS.out (by have := HL.out; omega)).mono ?_; rintro e w1 ⟨v1, rfl, hown1, hb1⟩))
        go_ret
        exact ⟨_, rfl, by rw [← HR.out, H1.out]; exact hown1, HB.out.trans hb1⟩
      · have e1 : (x.k == 1) = false := by simpa using h1
        have e2 : (x.k == 2) = false := by simpa using h2
        have e3 : (x.k == 3) = false := by simpa using h3
        have H1 := hid (valB_4 h1 h2 h3)
        clear h1 h2 h3
        go_enter Try.func27, Try.ntmps27
        go_wp2
        go_loopw [0, 29] (fun b i wr => ∃ k : Nat, k ≤ 8 ∧ i = .int .i64 k ∧ Hid (OwnB B wr b (xs ++ hisB (List.take k [x.h0, x.h1, x.h2, x.h3, x.h4, x.h5, x.h6, x.h7]))) ∧ Hid (Fr B w wr)) (fun _ i _ => 8 - (intOf i).toNat)
        case atStart => exact ⟨0, by omega, rfl, by simp only [List.take_zero, hisB, List.flatMap_nil, List.append_nil]; exact HV.out, HB.out⟩
        case round =>
          obtain ⟨k, hk, rfl, HO, HBw⟩ := hrel
          by_cases hlt : k < 8
          · have hlen : (xs ++ hisB (List.take k [x.h0, x.h1, x.h2, x.h3, x.h4, x.h5, x.h6, x.h7])).length + 8 ≤ 140737488355328 := by
              have := HL.out; rw [List.length_append, hisB_len, List.length_take]; simp only [List.length_cons, List.length_nil]; omega
            have HLEN := hid hlen
            clear hlen
            have hsz : B ≤ wr.heap.size := Nat.le_trans hB HBw.out.size
            have hidx := index42 x.h0 x.h1 x.h2 x.h3 x.h4 x.h5 x.h6 x.h7 k hlt
            have HT := hid (his_take x.h0 x.h1 x.h2 x.h3 x.h4 x.h5 x.h6 x.h7 k hlt)
            generalize nth8 x.h0 x.h1 x.h2 x.h3 x.h4 x.h5 x.h6 x.h7 k = z at *
            go_wp2_with (first
              | (go_at_call 42; refine (appNum_any (width := 8) HO.out (by decide) hsz HLEN.out).mono ?_; rintro e w1 ⟨v1, rfl, hown1, hb1⟩))
            go_roundw
            case rel => exact ⟨k + 1, by omega, by go_num, by rw [List.append_assoc, ← HT.out] at hown1; exact hown1, HBw.out.trans hb1⟩
            case measure => simp [intOf]; omega
          · obtain rfl : k = 8 := by omega
            go_wp2
            go_ret
            exact ⟨_, rfl, by rw [← HR.out, H1.out]; exact HO.out, HBw.out⟩
end Go.Proofs.Ytnjeocjachmbkaa
