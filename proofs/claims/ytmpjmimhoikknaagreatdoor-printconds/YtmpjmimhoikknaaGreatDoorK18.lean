/-
  Values of package value: OfInt and the others, Valid.
  Package value's quote.
  The library's contracts for strconv's Itoa, FormatBool and AppendInt, laid at this program's own numbers.
-/
import Derived.Test.YtmpjmimhoikknaaGreatDoorProg
import Derived.Test.YtmpjmimhoikknaaGreatDoorK17
import Derived.Lib.SmallJoins
import Derived.Lib.Builder
import Derived.Shelf.Small.Wraps
import Derived.Shelf.Strconv.Itoa0
import Derived.Shelf.Strconv.Itoa1
import Derived.Shelf.LaysM
import Derived.Shelf.Strconv.Itoa2
import Derived.Shelf.Strconv.Itoa3
import Derived.Shelf.Strconv.AppendUint10
import Derived.Shelf.Strconv.AppendInt10
import Derived.Shelf.Strconv.AppendIntPublic10
namespace Go.Proofs.YtmpjmimhoikknaaGreatDoor.VN
open Go.RowKit


theorem bcell {W w1 : World} (hb : Below W.heap.size W w1) : (∀ b o, b < W.heap.size → w1.cell? ⟨b, o, none⟩ = W.cell? ⟨b, o, none⟩) ∧ (∀ b o, b < W.heap.size → w1.frozen? ⟨b, o, none⟩ = W.frozen? ⟨b, o, none⟩) :=
  ⟨fun b o h => hb.cell (p := ⟨b, o, none⟩) h, fun b o h => hb.frozen (p := ⟨b, o, none⟩) h⟩

set_option maxHeartbeats 400000 in
theorem ofInt_any {n : Int} {w : World} :
    Calls Tryz.prog 204 #[.int .i64 n] w fun e w' => e = .returned (V 1 n ⟨#[]⟩ 0 0 0 0 0 0 0 0) ∧ Below w.heap.size w w' := by
  go_enter Tryz.func204, Tryz.ntmps204
  go_wp2
  exact bodyPost_ret (v := V 1 n ⟨#[]⟩ 0 0 0 0 0 0 0 0) (by simp [results, Tryz.results204, go_sem]) rfl ⟨rfl, (Below.refl _ _).alloc (Nat.le_refl _) _⟩
def cut64 (s : ByteArray) : ByteArray := s.extract 0 64
theorem cut64_short {s : ByteArray} (h : s.size ≤ 64) : cut64 s = s := by
  unfold cut64
  apply bytes_toList_inj
  rw [ByteArray.toList_eq, ByteArray.toList_eq]
  obtain ⟨⟨x⟩⟩ := s
  simp [ByteArray.size] at h
  rw [ByteArray.data_extract]
  simp [List.take_of_length_le h]
set_option maxHeartbeats 400000 in
theorem ofStr_any {s : ByteArray} {w : World} :
    Calls Tryz.prog 205 #[.string s] w fun e w' => e = .returned (V 2 0 (cut64 s) 0 0 0 0 0 0 0 0) ∧ Below w.heap.size w w' := by
  by_cases h : 64 < (s.size : Int)
  · have hm : min (s.size : Int) 64 = 64 := by omega
    go_enter Tryz.func205, Tryz.ntmps205
    go_wp2
    exact bodyPost_ret (v := V 2 0 (cut64 s) 0 0 0 0 0 0 0 0) (by simp [results, Tryz.results205, go_sem, cut64]) rfl ⟨rfl, (Below.refl _ _).alloc (Nat.le_refl _) _⟩
  · have h' : (s.size : Int) ≤ 64 := by omega
    have hm : min (s.size : Int) 64 = s.size := by omega
    rw [cut64_short (by omega)]
    go_enter Tryz.func205, Tryz.ntmps205
    go_wp2
    exact bodyPost_ret (v := V 2 0 s 0 0 0 0 0 0 0 0) (by simp [results, Tryz.results205, go_sem]) rfl ⟨rfl, (Below.refl _ _).alloc (Nat.le_refl _) _⟩
def b2i (b : Bool) : Int := if b then 1 else 0
set_option maxHeartbeats 400000 in
theorem ofBool_any {b : Bool} {w : World} :
    Calls Tryz.prog 206 #[.bool b] w fun e w' => e = .returned (V 3 (b2i b) ⟨#[]⟩ 0 0 0 0 0 0 0 0) ∧ Below w.heap.size w w' := by
  cases b
  · go_enter Tryz.func206, Tryz.ntmps206
    go_wp2
    exact bodyPost_ret (v := V 3 0 ⟨#[]⟩ 0 0 0 0 0 0 0 0) (by simp [results, Tryz.results206, go_sem]) rfl ⟨rfl, (Below.refl _ _).alloc (Nat.le_refl _) _⟩
  · go_enter Tryz.func206, Tryz.ntmps206
    go_wp2
    exact bodyPost_ret (v := V 3 1 ⟨#[]⟩ 0 0 0 0 0 0 0 0) (by simp [results, Tryz.results206, go_sem]) rfl ⟨rfl, (Below.refl _ _).alloc (Nat.le_refl _) _⟩
set_option maxHeartbeats 400000 in
theorem ofBuckets_any {a0 a1 a2 a3 a4 a5 a6 a7 : Int} {w : World} :
    Calls Tryz.prog 207 #[H8 a0 a1 a2 a3 a4 a5 a6 a7] w fun e w' => e = .returned (V 4 0 ⟨#[]⟩ a0 a1 a2 a3 a4 a5 a6 a7) ∧ Below w.heap.size w w' := by
  go_enter Tryz.func207, Tryz.ntmps207
  go_wp2
  exact bodyPost_ret (v := V 4 0 ⟨#[]⟩ a0 a1 a2 a3 a4 a5 a6 a7) (by simp [results, Tryz.results207, go_sem]) rfl ⟨rfl, ((Below.refl _ _).alloc (Nat.le_refl _) _).alloc (by simp) _⟩


def zeroH (a0 a1 a2 a3 a4 a5 a6 a7 : Int) : Bool := eqH a0 a1 a2 a3 a4 a5 a6 a7 0 0 0 0 0 0 0 0
def noText : ByteArray := ⟨#[]⟩
def validB (k n : Int) (s : ByteArray) (a0 a1 a2 a3 a4 a5 a6 a7 : Int) : Bool :=
  if k = 1 then decide (s = noText) && zeroH a0 a1 a2 a3 a4 a5 a6 a7
  else if k = 2 then decide (n = 0) && (zeroH a0 a1 a2 a3 a4 a5 a6 a7 && decide (s.size ≤ 64))
  else if k = 3 then decide (n = 0 ∨ n = 1) && (decide (s = noText) && zeroH a0 a1 a2 a3 a4 a5 a6 a7)
  else if k = 4 then decide (n = 0) && decide (s = noText)
  else false

theorem cut64_eq_iff (s : ByteArray) : s = cut64 s ↔ s.size ≤ 64 := by
  constructor
  · intro h
    rw [h]; unfold cut64
    rw [ByteArray.size_extract]; omega
  · intro h; exact (cut64_short h).symm
theorem eqH_self (a0 a1 a2 a3 a4 a5 a6 a7 : Int) : eqH a0 a1 a2 a3 a4 a5 a6 a7 a0 a1 a2 a3 a4 a5 a6 a7 = true := by simp [eqH]

set_option maxHeartbeats 400000 in
theorem valid_1 (n : Int) (s : ByteArray) (a0 a1 a2 a3 a4 a5 a6 a7 : Int) (w : World) :
    Calls Tryz.prog 170 #[V 1 n s a0 a1 a2 a3 a4 a5 a6 a7] w fun e w' => e = .returned (.bool (eqV 1 n s a0 a1 a2 a3 a4 a5 a6 a7 1 n ⟨#[]⟩ 0 0 0 0 0 0 0 0)) ∧ Below w.heap.size w w' := by
  have he := @eql24
  go_enter Tryz.func170, Tryz.ntmps170
  go_wp2_with fail
  go_region_with (first | (go_at_call 204; refine ofInt_any.mono ?_; rintro e w' ⟨rfl, hb⟩; obtain ⟨hc, hf⟩ := bcell hb))
  all_goals
    go_wp2
    go_ret
    exact ⟨rfl, ((Below.refl _ _).alloc (Nat.le_refl _) _).drew.trans (hb.mono (by simp))⟩
set_option maxHeartbeats 400000 in
theorem valid_2 (n : Int) (s : ByteArray) (a0 a1 a2 a3 a4 a5 a6 a7 : Int) (w : World) :
    Calls Tryz.prog 170 #[V 2 n s a0 a1 a2 a3 a4 a5 a6 a7] w fun e w' => e = .returned (.bool (eqV 2 n s a0 a1 a2 a3 a4 a5 a6 a7 2 0 (cut64 s) 0 0 0 0 0 0 0 0)) ∧ Below w.heap.size w w' := by
  have he := @eql24
  go_enter Tryz.func170, Tryz.ntmps170
  go_wp2_with fail
  go_region_with (first | (go_at_call 205; refine ofStr_any.mono ?_; rintro e w' ⟨rfl, hb⟩; obtain ⟨hc, hf⟩ := bcell hb))
  all_goals
    go_wp2
    go_ret
    exact ⟨rfl, ((Below.refl _ _).alloc (Nat.le_refl _) _).drew.trans (hb.mono (by simp))⟩
set_option maxHeartbeats 400000 in
theorem valid_3 (n : Int) (s : ByteArray) (a0 a1 a2 a3 a4 a5 a6 a7 : Int) (w : World) :
    Calls Tryz.prog 170 #[V 3 n s a0 a1 a2 a3 a4 a5 a6 a7] w fun e w' => e = .returned (.bool (eqV 3 n s a0 a1 a2 a3 a4 a5 a6 a7 3 (b2i (n == 1)) ⟨#[]⟩ 0 0 0 0 0 0 0 0)) ∧ Below w.heap.size w w' := by
  have he := @eql24
  go_enter Tryz.func170, Tryz.ntmps170
  go_wp2_with fail
  go_region_with (first | (go_at_call 206; refine ofBool_any.mono ?_; rintro e w' ⟨rfl, hb⟩; obtain ⟨hc, hf⟩ := bcell hb))
  all_goals
    go_wp2
    go_ret
    exact ⟨rfl, ((Below.refl _ _).alloc (Nat.le_refl _) _).drew.trans (hb.mono (by simp))⟩
set_option maxHeartbeats 400000 in
theorem valid_4 (n : Int) (s : ByteArray) (a0 a1 a2 a3 a4 a5 a6 a7 : Int) (w : World) :
    Calls Tryz.prog 170 #[V 4 n s a0 a1 a2 a3 a4 a5 a6 a7] w fun e w' => e = .returned (.bool (eqV 4 n s a0 a1 a2 a3 a4 a5 a6 a7 4 0 ⟨#[]⟩ a0 a1 a2 a3 a4 a5 a6 a7)) ∧ Below w.heap.size w w' := by
  have he := @eql24
  go_enter Tryz.func170, Tryz.ntmps170
  go_wp2_with fail
  go_region_with (first | (go_at_call 207; refine ofBuckets_any.mono ?_; rintro e w' ⟨rfl, hb⟩; obtain ⟨hc, hf⟩ := bcell hb))
  all_goals
    go_wp2
    go_ret
    exact ⟨rfl, ((Below.refl _ _).alloc (Nat.le_refl _) _).drew.trans (hb.mono (by simp))⟩

set_option maxHeartbeats 400000 in
theorem valid_0 (k n : Int) (s : ByteArray) (a0 a1 a2 a3 a4 a5 a6 a7 : Int) (w : World) (h1 : (k == 1) = false) (h2 : (k == 2) = false) (h3 : (k == 3) = false) (h4 : (k == 4) = false) :
    Calls Tryz.prog 170 #[V k n s a0 a1 a2 a3 a4 a5 a6 a7] w fun e w' => e = .returned (.bool false) ∧ Below w.heap.size w w' := by
  go_enter Tryz.func170, Tryz.ntmps170
  go_wp2
  go_ret
  exact ⟨rfl, (Below.refl _ _).alloc (Nat.le_refl _) _⟩
theorem valid_any {k n : Int} {s : ByteArray} {a0 a1 a2 a3 a4 a5 a6 a7 : Int} {w : World} :
    Calls Tryz.prog 170 #[V k n s a0 a1 a2 a3 a4 a5 a6 a7] w fun e w' => e = .returned (.bool (validB k n s a0 a1 a2 a3 a4 a5 a6 a7)) ∧ Below w.heap.size w w' := by
  by_cases h1 : k = 1
  · subst h1
    have h : validB 1 n s a0 a1 a2 a3 a4 a5 a6 a7 = eqV 1 n s a0 a1 a2 a3 a4 a5 a6 a7 1 n ⟨#[]⟩ 0 0 0 0 0 0 0 0 := by
      by_cases hs : s = ⟨#[]⟩ <;> simp [validB, eqV, zeroH, noText, hs]
    rw [h]; exact valid_1 _ _ _ _ _ _ _ _ _ _ _
  · by_cases h2 : k = 2
    · subst h2
      have h : validB 2 n s a0 a1 a2 a3 a4 a5 a6 a7 = eqV 2 n s a0 a1 a2 a3 a4 a5 a6 a7 2 0 (cut64 s) 0 0 0 0 0 0 0 0 := by
        have := cut64_eq_iff s
        by_cases hs : s.size ≤ 64 <;> simp [validB, eqV, zeroH, this, hs]
      rw [h]; exact valid_2 _ _ _ _ _ _ _ _ _ _ _
    · by_cases h3 : k = 3
      · subst h3
        have h : validB 3 n s a0 a1 a2 a3 a4 a5 a6 a7 = eqV 3 n s a0 a1 a2 a3 a4 a5 a6 a7 3 (b2i (n == 1)) ⟨#[]⟩ 0 0 0 0 0 0 0 0 := by
          by_cases hs : s = ⟨#[]⟩
          · by_cases hn : n = 1
            · simp [validB, eqV, zeroH, noText, hn, hs, b2i]
            · simp [validB, eqV, zeroH, noText, hn, hs, b2i]
          · simp [validB, eqV, zeroH, noText, hs]
        rw [h]; exact valid_3 _ _ _ _ _ _ _ _ _ _ _
      · by_cases h4 : k = 4
        · subst h4
          have h : validB 4 n s a0 a1 a2 a3 a4 a5 a6 a7 = eqV 4 n s a0 a1 a2 a3 a4 a5 a6 a7 4 0 ⟨#[]⟩ a0 a1 a2 a3 a4 a5 a6 a7 := by
            by_cases hs : s = ⟨#[]⟩ <;> simp [validB, eqV, noText, eqH_self, hs]
          rw [h]; exact valid_4 _ _ _ _ _ _ _ _ _ _ _
        · have h : validB k n s a0 a1 a2 a3 a4 a5 a6 a7 = false := by simp [validB, h1, h2, h3, h4]
          rw [h]; exact valid_0 _ _ _ _ _ _ _ _ _ _ _ _ (by simpa using h1) (by simpa using h2) (by simpa using h3) (by simpa using h4)
end Go.Proofs.YtmpjmimhoikknaaGreatDoor.VN
namespace Go.Proofs.YtmpjmimhoikknaaGreatDoor.VN
open Go.RowKit Go.Joins


def escC (c : UInt8) : List UInt8 := if c = 34 ∨ c = 92 then [92, c] else [c]
def esc : List UInt8 → List UInt8
  | [] => []
  | c :: r => escC c ++ esc r
theorem esc_append (x y : List UInt8) : esc (x ++ y) = esc x ++ esc y := by
  induction x with
  | nil => rfl
  | cons c r ih => simp [esc, ih]
theorem esc_le (x : List UInt8) : (esc x).length ≤ 2 * x.length := by
  induction x with
  | nil => simp [esc]
  | cons c r ih => simp [esc, escC]; split <;> simp <;> omega
theorem take_snoc (s : ByteArray) (k : Nat) (h : k < s.size) : s.data.toList.take (k + 1) = s.data.toList.take k ++ [s[k]] := by
  rw [List.take_succ_eq_append_getElem (by simpa using h)]; rfl
def bytesV (l : List UInt8) : List Value := l.map fun b => .int .u8 (b.toNat : Int)

theorem Tryz.info5 : (Tryz.prog.info? 5).map (fun i => (i.zero, i.size, i.bytes)) = some (some (.int .u8 0), 1, 1) := by kernel_rfl
theorem alloc_cell (w : World) (x : Value) (t : TypeId) : (w.alloc (.cells #[x] t)).cell? ⟨w.heap.size, 0, none⟩ = some x := by simp [go_sem]
theorem app1 {ops : Array Oper} {rest : List Oper} {o : Oper} {a : Act} {Q : Exit → Act → World → Prop} {w : World} {B n : Nat} {xs : List Value} {v c : Value} {g : Nat}
    (hgd : o.guard = none) (s x : Operand) (ho : o.op = .call { callee := .builtin .append, args := #[s, x], argTypes := #[105, 105] })
    (hs : a.eval s = v) (hown : w.ownsRow B 5 1 v n xs) (hx : a.eval x = .slice (some ⟨g, 0, none⟩) 1 1) (hc : w.cell? ⟨g, 0, none⟩ = some c) (h1 : c.oneCell' = true) (hn : n ≤ 1000000) (hB : B ≤ w.heap.size)
    (h : ∀ v' w', w'.ownsRow B 5 1 v' (n + 1) (xs ++ [c]) → Below B w w' → wpList Tryz.prog ops Q rest (a.put o.dst v') w') : wpList Tryz.prog ops Q (o :: rest) a w := by
  obtain ⟨i0, hi, hz0, hz1, hz2⟩ := info_parts Tryz.info5
  refine wpList_append_own w hgd s x 105 ho B 5 i0 (.int .u8 0) 1 1 Tryz.underlying105 hi hz0 hz1 hz2 rfl (by decide) v n xs hs hown ⟨g, 0, none⟩ 1 1 [c] hx rfl ?_ ?_ ?_ ?_ hB ?_
  · intro j u hj
    match j, hj with
    | 0, hj => simp at hj; subst hj; simpa [Addr.add] using hc
  · intro u hu; simp at hu; subst hu; exact h1
  · unfold maxLen; omega
  · omega
  · intro v' w' h1 h2 _
    exact h v' w' h1 ((Below.refl B w).grown h2 hB (fun k e => (hown.lt k e).1))
theorem bytesV_snoc (l : List UInt8) (c : UInt8) : bytesV l ++ [.int .u8 (c.toNat : Int)] = bytesV (l ++ [c]) := by simp [bytesV]

theorem conv_own {w : World} {B n g cap : Nat} {l : List UInt8} (h : w.ownsRow B 5 1 (.slice (some ⟨g, 0, none⟩) n cap) n (bytesV l)) :
    (convert 105 9 (.slice (some ⟨g, 0, none⟩) n cap)).run Tryz.prog w = .ok (.string ⟨l.toArray⟩) w := by
  have hn : n = l.length := by have := h.1; simp [bytesV] at this; omega
  subst hn
  refine run_convert_bytes_back w 105 9 5 ⟨g, 0, none⟩ cap l Tryz.underlying105 Tryz.underlying5 Tryz.underlying9 ?_
  intro j hj
  have hx := h.cells (g := g) rfl j (.int .u8 (l[j].toNat : Int)) (by simp [bytesV, List.getElem?_eq_getElem hj])
  exact hx
theorem hid {p : Prop} (h : p) : Hid p := h
theorem esc_step {s : ByteArray} {k : Nat} (h : k < s.size) : esc (s.data.toList.take (k + 1)) = esc (s.data.toList.take k) ++ escC s[k] := by
  rw [take_snoc s k h, esc_append]; simp [esc]
theorem own_cast {w : World} {B n m : Nat} {v : Value} {xs ys : List Value} (h : w.ownsRow B 5 1 v n xs) (hn : n = m) (hx : xs = ys) : w.ownsRow B 5 1 v m ys := by subst hn; subst hx; exact h
set_option maxHeartbeats 400000 in
theorem quote_any {s : ByteArray} {w : World} (hs : s.size ≤ 64) :
    Calls Tryz.prog 171 #[.string s] w fun e w' => e = .returned (.string ⟨(34 :: (esc s.data.toList ++ [34])).toArray⟩) ∧ Below w.heap.size w w' := by
  go_enter Tryz.func171, Tryz.ntmps171
  go_wp2
  go_loopw [3, 8] (fun v i wr => ∃ (k : Nat) (l : List UInt8), k ≤ s.size ∧ i = .int .i64 k ∧ l.length ≤ 2 * k + 1 ∧ Hid (l = 34 :: esc (s.data.toList.take k)) ∧ Hid (wr.ownsRow w.heap.size 5 1 v l.length (bytesV l)) ∧ Hid (Below w.heap.size w wr))
    (fun _ i _ => s.size - (intOf i).toNat)
  case atStart =>
    refine ⟨0, [34], by omega, rfl, by simp, rfl, ?_, ?_⟩
    · exact World.ownsRow_lit w #[.int .u8 34] 1 (Nat.le_refl _) (by decide) rfl
    · exact (Below.refl _ _).alloc (Nat.le_refl _) _
  case round =>
    obtain ⟨k, l, hk, rfl, hl, HL, HO, HB⟩ := hrel
    by_cases hlt : k < s.size
    · by_cases hc : s[k] = 34 ∨ s[k] = 92
      · have HE : Hid (escC s[k] = [92, s[k]]) := by unfold Hid escC; rw [if_pos hc]
        have hh : ((s[k].toNat : Int) == 34) = true ∨ (((s[k].toNat : Int) == 34) = false ∧ ((s[k].toNat : Int) == 92) = true) := by
          rcases hc with hc | hc
          · left; rw [hc]; rfl
          · right; rw [hc]; exact ⟨rfl, rfl⟩
        clear hc
        have hsz : w.heap.size ≤ wr.heap.size := HB.out.size
        rcases hh with h1 | ⟨h1, h2⟩
        all_goals
          go_wp2_with (first
            | (at_builtin; refine app1 rfl _ _ rfl rfl (HO.out.alloc _) rfl (alloc_cell _ _ _) rfl (by omega) (by go_size) ?_; intro v1 w1 ho1 hb1; have hsz1 : w.heap.size ≤ w1.heap.size := (by have := hb1.size; simp at this; omega); have HO1 := hid ho1; have HB1 := hid hb1; clear ho1 hb1)
            | (at_builtin; refine app1 rfl _ _ rfl rfl (HO1.out.alloc _) rfl (alloc_cell _ _ _) rfl (by omega) (by go_size) ?_; intro v2 w2 ho2 hb2; have HO2 := hid ho2; have HB2 := hid hb2; clear ho2 hb2))
          go_roundw
          case rel =>
            refine ⟨k + 1, l ++ [92, s[k]], by omega, by go_num, by simp; omega, ?_, own_cast HO2.out (by simp) (by simp [bytesV]), ?_⟩
            · show _ = _; rw [esc_step hlt, HE.out, HL.out]; simp
            · exact ((HB.out.alloc (by go_size) _).trans HB1.out).alloc hsz1 _ |>.trans HB2.out
          case measure => simp [intOf]; omega
      · have HE : Hid (escC s[k] = [s[k]]) := by unfold Hid escC; rw [if_neg hc]
        have h1 : ((s[k].toNat : Int) == 34) = false := by
          apply Bool.eq_false_iff.2; intro h; apply hc; left; apply UInt8.toNat_inj.1; have := beq_iff_eq.1 h; simp; omega
        have h2 : ((s[k].toNat : Int) == 92) = false := by
          apply Bool.eq_false_iff.2; intro h; apply hc; right; apply UInt8.toNat_inj.1; have := beq_iff_eq.1 h; simp; omega
        clear hc
        have hsz : w.heap.size ≤ wr.heap.size := HB.out.size
        go_wp2_with (first
            | (at_builtin; refine app1 rfl _ _ rfl rfl (HO.out.alloc _) rfl (alloc_cell _ _ _) rfl (by omega) (by go_size) ?_; intro v1 w1 ho1 hb1; have HO1 := hid ho1; have HB1 := hid hb1; clear ho1 hb1))
        go_roundw
        case rel =>
          refine ⟨k + 1, l ++ [s[k]], by omega, by go_num, by simp; omega, ?_, own_cast HO1.out (by simp) (by simp [bytesV]), ?_⟩
          · show _ = _; rw [esc_step hlt, HE.out, HL.out]; simp
          · exact (HB.out.alloc (by go_size) _).trans HB1.out
        case measure => simp [intOf]; omega
    · have hks : k = s.size := by omega
      subst hks
      have hsz : w.heap.size ≤ wr.heap.size := HB.out.size
      go_wp2_with (first
            | (at_builtin; refine app1 rfl _ _ rfl rfl (HO.out.alloc _) rfl (alloc_cell _ _ _) rfl (by omega) (by go_size) ?_; intro v1 w1 ho1 hb1; obtain ⟨g1, cap1, rfl⟩ := ownsRow_form ho1 (by omega); have hcv := conv_own (l := l ++ [34]) (own_cast ho1 rfl (by simp [bytesV])); have HB1 := hid hb1; clear ho1 hb1))
      go_ret
      refine ⟨?_, (HB.out.alloc (by go_size) _).trans HB1.out⟩
      rw [HL.out, show s.data.toList.take s.size = s.data.toList from List.take_of_length_le (by rw [Array.length_toList]; exact Nat.le_refl _)]; rfl
end Go.Proofs.YtmpjmimhoikknaaGreatDoor.VN
namespace Go.Proofs
open Go.Shelf
def Tryz.lays214_ren : Go.Shelf.Ren := ⟨fun | 214 => 208 | n => n, fun | 4 => 4 | 9 => 9 | n => n, fun | n => n⟩
theorem Tryz.lays214 : Go.Proofs.Lays.n214 Tryz.prog Tryz.lays214_ren := {
  mixed := by kernel_rfl
  f214 := Tryz.func208.trans (congrArg some (by kernel_rfl))
  t4 := Tryz.underlying4
  a4 := Tryz.isAgg4
  z4 := Tryz.sizeOf4
  v4 := Tryz.zeroValue4
  t9 := Tryz.underlying9
  a9 := Tryz.isAgg9
  z9 := Tryz.sizeOf9
  v9 := Tryz.zeroValue9 }
def Tryz.lays121_ren : Go.Shelf.Ren := ⟨fun | 121 => 172 | 214 => 208 | n => n, fun | 4 => 4 | 9 => 9 | n => n, fun | n => n⟩
theorem Tryz.lays121 : Go.Proofs.Lays.n121 Tryz.prog Tryz.lays121_ren := {
  mixed := by kernel_rfl
  f121 := Tryz.func172.trans (congrArg some (by kernel_rfl))
  f214 := Tryz.func208.trans (congrArg some (by kernel_rfl))
  t4 := Tryz.underlying4
  a4 := Tryz.isAgg4
  z4 := Tryz.sizeOf4
  v4 := Tryz.zeroValue4
  t9 := Tryz.underlying9
  a9 := Tryz.isAgg9
  z9 := Tryz.sizeOf9
  v9 := Tryz.zeroValue9 }
open Go.RowKit in
theorem Tryz.strconv_FormatBool (b : Bool) (w : World) :
    Calls Tryz.prog 172 #[.bool b] w fun e w' => e = .returned (.string ⟨(Lib.formatBool b).toArray⟩) ∧ w' = w := Any.strconv_FormatBool Tryz.lays121 b w
def Tryz.laysM171_ren : Go.Shelf.Ren := ⟨fun | 171 => 136 | 243 => 169 | 246 => 203 | 283 => 221 | 284 => 222 | 285 => 223 | 286 => 224 | 129 => 239 | 317 => 238 | 318 => 240 | 319 => 241 | 320 => 242 | 337 => 249 | 338 => 250 | n => n, fun | 3 => 3 | 9 => 9 | 2 => 2 | 4 => 4 | 171 => 217 | 0 => 0 | 53 => 218 | 37 => 105 | 5 => 5 | 173 => 221 | 212 => 233 | 51 => 234 | 20 => 20 | 213 => 235 | 46 => 228 | 232 => 247 | 233 => 248 | n => n, fun | 17 => 4 | 18 => 7 | 19 => 8 | n => n⟩
theorem Tryz.laysM171 : Go.Proofs.LaysM.n171 Tryz.prog Tryz.laysM171_ren := {
  mixed := by kernel_rfl
  f129 := Tryz.func239.trans (congrArg some (by kernel_rfl))
  f171 := Tryz.func136.trans (congrArg some (by kernel_rfl))
  f243 := Tryz.func169.trans (congrArg some (by kernel_rfl))
  f246 := Tryz.func203.trans (congrArg some (by kernel_rfl))
  f283 := Tryz.func221.trans (congrArg some (by kernel_rfl))
  f284 := Tryz.func222.trans (congrArg some (by kernel_rfl))
  f285 := Tryz.func223.trans (congrArg some (by kernel_rfl))
  f286 := Tryz.func224.trans (congrArg some (by kernel_rfl))
  f317 := Tryz.func238.trans (congrArg some (by kernel_rfl))
  f318 := Tryz.func240.trans (congrArg some (by kernel_rfl))
  f319 := Tryz.func241.trans (congrArg some (by kernel_rfl))
  f320 := Tryz.func242.trans (congrArg some (by kernel_rfl))
  f337 := Tryz.func249.trans (congrArg some (by kernel_rfl))
  f338 := Tryz.func250.trans (congrArg some (by kernel_rfl))
  t0 := Tryz.underlying0
  a0 := Tryz.isAgg0
  z0 := Tryz.sizeOf0
  v0 := Tryz.zeroValue0
  t2 := Tryz.underlying2
  a2 := Tryz.isAgg2
  z2 := Tryz.sizeOf2
  v2 := Tryz.zeroValue2
  t3 := Tryz.underlying3
  a3 := Tryz.isAgg3
  z3 := Tryz.sizeOf3
  v3 := Tryz.zeroValue3
  t4 := Tryz.underlying4
  a4 := Tryz.isAgg4
  z4 := Tryz.sizeOf4
  v4 := Tryz.zeroValue4
  t5 := Tryz.underlying5
  a5 := Tryz.isAgg5
  z5 := Tryz.sizeOf5
  v5 := Tryz.zeroValue5
  t9 := Tryz.underlying9
  a9 := Tryz.isAgg9
  z9 := Tryz.sizeOf9
  v9 := Tryz.zeroValue9
  t20 := Tryz.underlying20
  a20 := Tryz.isAgg20
  z20 := Tryz.sizeOf20
  v20 := Tryz.zeroValue20
  t37 := Tryz.underlying105
  a37 := Tryz.isAgg105
  z37 := Tryz.sizeOf105
  v37 := Tryz.zeroValue105
  t46 := Tryz.underlying228
  a46 := Tryz.isAgg228
  z46 := Tryz.sizeOf228
  v46 := Tryz.zeroValue228
  t51 := Tryz.underlying234
  a51 := Tryz.isAgg234
  z51 := Tryz.sizeOf234
  v51 := Tryz.zeroValue234
  t53 := Tryz.underlying218
  a53 := Tryz.isAgg218
  z53 := Tryz.sizeOf218
  v53 := Tryz.zeroValue218
  t171 := Tryz.underlying217
  a171 := Tryz.isAgg217
  z171 := Tryz.sizeOf217
  v171 := Tryz.zeroValue217
  t173 := Tryz.underlying221
  a173 := Tryz.isAgg221
  z173 := Tryz.sizeOf221
  v173 := Tryz.zeroValue221
  t212 := Tryz.underlying233
  a212 := Tryz.isAgg233
  z212 := Tryz.sizeOf233
  v212 := Tryz.zeroValue233
  t213 := Tryz.underlying235
  a213 := Tryz.isAgg235
  z213 := Tryz.sizeOf235
  t232 := Tryz.underlying247
  a232 := Tryz.isAgg247
  z232 := Tryz.sizeOf247
  v232 := Tryz.zeroValue247
  t233 := Tryz.underlying248
  a233 := Tryz.isAgg248
  z233 := Tryz.sizeOf248
  v233 := Tryz.zeroValue248
  g17 := by kernel_rfl
  g18 := by kernel_rfl
  g19 := by kernel_rfl
  i0 := by kernel_rfl
  i2 := by kernel_rfl
  i3 := by kernel_rfl
  i4 := by kernel_rfl
  i5 := by kernel_rfl
  i9 := by kernel_rfl
  i20 := by kernel_rfl
  i37 := by kernel_rfl
  i46 := by kernel_rfl
  i51 := by kernel_rfl
  i53 := by kernel_rfl
  i171 := by kernel_rfl
  i173 := by kernel_rfl
  i212 := by kernel_rfl
  i232 := by kernel_rfl
  i233 := by kernel_rfl
  m17 := by kernel_rfl
  m18 := by kernel_rfl
  m19 := by kernel_rfl }
open Go.RowKit Go.Sort Go.Lib in
theorem Tryz.strconv_Itoa (n : Int) (h0 : -9223372036854775808 ≤ n) (h1 : n ≤ 9223372036854775807) (w : World) (htab : Lib.TabIs Tryz.prog w "internal/strconv.uint64pow10" .u64 Lib.pow10Tab) :
    Calls Tryz.prog 136 #[.int .i64 n] w fun e w' => e = .returned (.string ⟨(Lib.itoa n).toArray⟩) ∧ ∃ k os, w' = grow (w.drewN k) os := Any.strconv_Itoa Tryz.laysM171 n h0 h1 w htab
def Tryz.laysM176_ren : Go.Shelf.Ren := ⟨fun | 176 => 209 | 249 => 225 | 288 => 243 | 283 => 221 | 284 => 222 | 285 => 223 | 286 => 224 | 129 => 239 | 317 => 238 | 318 => 240 | 319 => 241 | 320 => 242 | 337 => 249 | 338 => 250 | n => n, fun | 37 => 105 | 2 => 2 | 3 => 3 | 53 => 218 | 4 => 4 | 9 => 9 | 171 => 217 | 0 => 0 | 173 => 221 | 212 => 233 | 51 => 234 | 5 => 5 | 20 => 20 | 213 => 235 | 46 => 228 | 232 => 247 | 233 => 248 | n => n, fun | 17 => 4 | 18 => 7 | 19 => 8 | n => n⟩
theorem Tryz.laysM176 : Go.Proofs.LaysM.n176 Tryz.prog Tryz.laysM176_ren := {
  mixed := by kernel_rfl
  f129 := Tryz.func239.trans (congrArg some (by kernel_rfl))
  f176 := Tryz.func209.trans (congrArg some (by kernel_rfl))
  f249 := Tryz.func225.trans (congrArg some (by kernel_rfl))
  f283 := Tryz.func221.trans (congrArg some (by kernel_rfl))
  f284 := Tryz.func222.trans (congrArg some (by kernel_rfl))
  f285 := Tryz.func223.trans (congrArg some (by kernel_rfl))
  f286 := Tryz.func224.trans (congrArg some (by kernel_rfl))
  f288 := Tryz.func243.trans (congrArg some (by kernel_rfl))
  f317 := Tryz.func238.trans (congrArg some (by kernel_rfl))
  f318 := Tryz.func240.trans (congrArg some (by kernel_rfl))
  f319 := Tryz.func241.trans (congrArg some (by kernel_rfl))
  f320 := Tryz.func242.trans (congrArg some (by kernel_rfl))
  f337 := Tryz.func249.trans (congrArg some (by kernel_rfl))
  f338 := Tryz.func250.trans (congrArg some (by kernel_rfl))
  t0 := Tryz.underlying0
  a0 := Tryz.isAgg0
  z0 := Tryz.sizeOf0
  v0 := Tryz.zeroValue0
  t2 := Tryz.underlying2
  a2 := Tryz.isAgg2
  z2 := Tryz.sizeOf2
  v2 := Tryz.zeroValue2
  t3 := Tryz.underlying3
  a3 := Tryz.isAgg3
  z3 := Tryz.sizeOf3
  v3 := Tryz.zeroValue3
  t4 := Tryz.underlying4
  a4 := Tryz.isAgg4
  z4 := Tryz.sizeOf4
  v4 := Tryz.zeroValue4
  t5 := Tryz.underlying5
  a5 := Tryz.isAgg5
  z5 := Tryz.sizeOf5
  v5 := Tryz.zeroValue5
  t9 := Tryz.underlying9
  a9 := Tryz.isAgg9
  z9 := Tryz.sizeOf9
  v9 := Tryz.zeroValue9
  t20 := Tryz.underlying20
  a20 := Tryz.isAgg20
  z20 := Tryz.sizeOf20
  v20 := Tryz.zeroValue20
  t37 := Tryz.underlying105
  a37 := Tryz.isAgg105
  z37 := Tryz.sizeOf105
  v37 := Tryz.zeroValue105
  t46 := Tryz.underlying228
  a46 := Tryz.isAgg228
  z46 := Tryz.sizeOf228
  v46 := Tryz.zeroValue228
  t51 := Tryz.underlying234
  a51 := Tryz.isAgg234
  z51 := Tryz.sizeOf234
  v51 := Tryz.zeroValue234
  t53 := Tryz.underlying218
  a53 := Tryz.isAgg218
  z53 := Tryz.sizeOf218
  v53 := Tryz.zeroValue218
  t171 := Tryz.underlying217
  a171 := Tryz.isAgg217
  z171 := Tryz.sizeOf217
  v171 := Tryz.zeroValue217
  t173 := Tryz.underlying221
  a173 := Tryz.isAgg221
  z173 := Tryz.sizeOf221
  v173 := Tryz.zeroValue221
  t212 := Tryz.underlying233
  a212 := Tryz.isAgg233
  z212 := Tryz.sizeOf233
  v212 := Tryz.zeroValue233
  t213 := Tryz.underlying235
  a213 := Tryz.isAgg235
  z213 := Tryz.sizeOf235
  t232 := Tryz.underlying247
  a232 := Tryz.isAgg247
  z232 := Tryz.sizeOf247
  v232 := Tryz.zeroValue247
  t233 := Tryz.underlying248
  a233 := Tryz.isAgg248
  z233 := Tryz.sizeOf248
  v233 := Tryz.zeroValue248
  g17 := by kernel_rfl
  g18 := by kernel_rfl
  g19 := by kernel_rfl
  i0 := by kernel_rfl
  i2 := by kernel_rfl
  i3 := by kernel_rfl
  i4 := by kernel_rfl
  i5 := by kernel_rfl
  i9 := by kernel_rfl
  i20 := by kernel_rfl
  i37 := by kernel_rfl
  i46 := by kernel_rfl
  i51 := by kernel_rfl
  i53 := by kernel_rfl
  i171 := by kernel_rfl
  i173 := by kernel_rfl
  i212 := by kernel_rfl
  i232 := by kernel_rfl
  i233 := by kernel_rfl
  m17 := by kernel_rfl
  m18 := by kernel_rfl
  m19 := by kernel_rfl }
open Go.RowKit Go.Sort Go.Lib in
theorem Tryz.strconv_AppendInt_10 (B n : Nat) (i : Int) (h0 : -9223372036854775808 ≤ i) (h1 : i ≤ 9223372036854775807) (sv : Value) (xs : List Value) (w : World) (hown : w.ownsRow B 5 1 sv n xs) (hBw : B ≤ w.heap.size) (hlim : n + 21 ≤ 140737488355328) (htab : Lib.TabBelow Tryz.prog B w "internal/strconv.uint64pow10" .u64 Lib.pow10Tab) :
    Calls Tryz.prog 209 #[sv, .int .i64 i, .int .i64 10] w fun e w' => ∃ v', e = .returned v' ∧ w'.ownsRow B 5 1 v' (n + (Lib.itoa i).length) (xs ++ Lib.byteCells (Lib.itoa i)) ∧ Below B w w' ∧ Lib.OthersKept 5 none w w' := Any.strconv_AppendInt_10 Tryz.laysM176 B n i h0 h1 sv xs w hown hBw hlim htab
end Go.Proofs
