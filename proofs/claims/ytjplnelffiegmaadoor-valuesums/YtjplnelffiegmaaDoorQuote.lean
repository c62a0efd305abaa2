/-
  What value.quote returns, for every text of at most 64 bytes.
-/
import Derived.Test.YtjplnelffiegmaaDoorBucket
import Derived.Lib.SmallJoins
import Derived.Lib.Builder
namespace Go.Proofs.YtjplnelffiegmaaDoor
open Go.RowKit Go.Joins

def escC (c : UInt8) : List UInt8 := if c = 34 ∨ c = 92 then [92, c] else [c]
def esc : List UInt8 → List UInt8
  | [] => []
  | c :: r => escC c ++ esc r
theorem esc_append (x y : List UInt8) : esc (x ++ y) = esc x ++ esc y := by
  induction x with
  | nil => rfl
  | cons c r ih => simp [esc, ih]
theorem esc_le (x : List UInt8) : (esc x).length ≤ 2 * x.length := by
  induction x with
  | nil => simp [esc]
  | cons c r ih => simp [esc, escC]; split <;> simp <;> omega
theorem take_snoc (s : ByteArray) (k : Nat) (h : k < s.size) : s.data.toList.take (k + 1) = s.data.toList.take k ++ [s[k]] := by
  rw [List.take_succ_eq_append_getElem (by simpa using h)]; rfl
def bytesV (l : List UInt8) : List Value := l.map fun b => .int .u8 (b.toNat : Int)

theorem Tryd.info5 : (Tryd.prog.info? 5).map (fun i => (i.zero, i.size, i.bytes)) = some (some (.int .u8 0), 1, 1) := by kernel_rfl
theorem alloc_cell (w : World) (x : Value) (t : TypeId) : (w.alloc (.cells #[x] t)).cell? ⟨w.heap.size, 0, none⟩ = some x := by simp [go_sem]
theorem app1 {ops : Array Oper} {rest : List Oper} {o : Oper} {a : Act} {Q : Exit → Act → World → Prop} {w : World} {B n : Nat} {xs : List Value} {v c : Value} {g : Nat}
    (hgd : o.guard = none) (s x : Operand) (ho : o.op = .call { callee := .builtin .append, args := #[s, x], argTypes := #[46, 46] })
    (hs : a.eval s = v) (hown : w.ownsRow B 5 1 v n xs) (hx : a.eval x = .slice (some ⟨g, 0, none⟩) 1 1) (hc : w.cell? ⟨g, 0, none⟩ = some c) (h1 : c.oneCell' = true) (hn : n ≤ 1000000) (hB : B ≤ w.heap.size)
    (h : ∀ v' w', w'.ownsRow B 5 1 v' (n + 1) (xs ++ [c]) → Below B w w' → wpList Tryd.prog ops Q rest (a.put o.dst v') w') : wpList Tryd.prog ops Q (o :: rest) a w := by
  obtain ⟨i0, hi, hz0, hz1, hz2⟩ := info_parts Tryd.info5
  refine wpList_append_own w hgd s x 46 ho B 5 i0 (.int .u8 0) 1 1 Tryd.underlying46 hi hz0 hz1 hz2 rfl (by decide) v n xs hs hown ⟨g, 0, none⟩ 1 1 [c] hx rfl ?_ ?_ ?_ ?_ hB ?_
  · intro j u hj
    match j, hj with
    | 0, hj => simp at hj; subst hj; simpa [Addr.add] using hc
  · intro u hu; simp at hu; subst hu; exact h1
  · unfold maxLen; omega
  · omega
  · intro v' w' h1 h2 _
    exact h v' w' h1 ((Below.refl B w).grown h2 hB (fun k e => (hown.lt k e).1))
theorem bytesV_snoc (l : List UInt8) (c : UInt8) : bytesV l ++ [.int .u8 (c.toNat : Int)] = bytesV (l ++ [c]) := by simp [bytesV]

theorem conv_own {w : World} {B n g cap : Nat} {l : List UInt8} (h : w.ownsRow B 5 1 (.slice (some ⟨g, 0, none⟩) n cap) n (bytesV l)) :
    (convert 46 9 (.slice (some ⟨g, 0, none⟩) n cap)).run Tryd.prog w = .ok (.string ⟨l.toArray⟩) w := by
  have hn : n = l.length := by have := h.1; simp [bytesV] at this; omega
  subst hn
  refine run_convert_bytes_back w 46 9 5 ⟨g, 0, none⟩ cap l Tryd.underlying46 Tryd.underlying5 Tryd.underlying9 ?_
  intro j hj
  have hx := h.cells (g := g) rfl j (.int .u8 (l[j].toNat : Int)) (by simp [bytesV, List.getElem?_eq_getElem hj])
  exact hx
theorem hid {p : Prop} (h : p) : Hid p := h
theorem esc_step {s : ByteArray} {k : Nat} (h : k < s.size) : esc (s.data.toList.take (k + 1)) = esc (s.data.toList.take k) ++ escC s[k] := by
  rw [take_snoc s k h, esc_append]; simp [esc]
theorem own_cast {w : World} {B n m : Nat} {v : Value} {xs ys : List Value} (h : w.ownsRow B 5 1 v n xs) (hn : n = m) (hx : xs = ys) : w.ownsRow B 5 1 v m ys := by subst hn; subst hx; exact h
set_option maxHeartbeats 400000 in
theorem quote_any {s : ByteArray} {w : World} (hs : s.size ≤ 64) :
    Calls Tryd.prog 27 #[.string s] w fun e w' => e = .returned (.string ⟨(34 :: (esc s.data.toList ++ [34])).toArray⟩) ∧ Below w.heap.size w w' := by
  go_enter Tryd.func27, Tryd.ntmps27
  go_wp2
  go_loopw [3, 8] (fun v i wr => ∃ (k : Nat) (l : List UInt8), k ≤ s.size ∧ i = .int .i64 k ∧ l.length ≤ 2 * k + 1 ∧ Hid (l = 34 :: esc (s.data.toList.take k)) ∧ Hid (wr.ownsRow w.heap.size 5 1 v l.length (bytesV l)) ∧ Hid (Below w.heap.size w wr))
    (fun _ i _ => s.size - (intOf i).toNat)
  case atStart =>
    refine ⟨0, [34], by omega, rfl, by simp, rfl, ?_, ?_⟩
    · exact World.ownsRow_lit w #[.int .u8 34] 1 (Nat.le_refl _) (by decide) rfl
    · exact (Below.refl _ _).alloc (Nat.le_refl _) _
  case round =>
    obtain ⟨k, l, hk, rfl, hl, HL, HO, HB⟩ := hrel
    by_cases hlt : k < s.size
    · by_cases hc : s[k] = 34 ∨ s[k] = 92
      · have HE : Hid (escC s[k] = [92, s[k]]) := by unfold Hid escC; rw [if_pos hc]
        have hh : ((s[k].toNat : Int) == 34) = true ∨ (((s[k].toNat : Int) == 34) = false ∧ ((s[k].toNat : Int) == 92) = true) := by
          rcases hc with hc | hc
          · left; rw [hc]; rfl
          · right; rw [hc]; exact ⟨rfl, rfl⟩
        clear hc
        have hsz : w.heap.size ≤ wr.heap.size := HB.out.size
        rcases hh with h1 | ⟨h1, h2⟩
        all_goals
          go_wp2_with (first
            | (at_builtin; refine app1 rfl _ _ rfl rfl (HO.out.alloc _) rfl (alloc_cell _ _ _) rfl (by omega) (by go_size) ?_; intro v1 w1 ho1 hb1; have hsz1 : w.heap.size ≤ w1.heap.size := (by have := hb1.size; simp at this; omega); have HO1 := hid ho1; have HB1 := hid hb1; clear ho1 hb1)
            | (at_builtin; refine app1 rfl _ _ rfl rfl (HO1.out.alloc _) rfl (alloc_cell _ _ _) rfl (by omega) (by go_size) ?_; intro v2 w2 ho2 hb2; have HO2 := hid ho2; have HB2 := hid hb2; clear ho2 hb2))
          go_roundw
          case rel =>
            refine ⟨k + 1, l ++ [92, s[k]], by omega, by go_num, by simp; omega, ?_, own_cast HO2.out (by simp) (by simp [bytesV]), ?_⟩
            · show _ = _; rw [esc_step hlt, HE.out, HL.out]; simp
            · exact ((HB.out.alloc (by go_size) _).trans HB1.out).alloc hsz1 _ |>.trans HB2.out
          case measure => simp [intOf]; omega
      · have HE : Hid (escC s[k] = [s[k]]) := by unfold Hid escC; rw [if_neg hc]
        have h1 : ((s[k].toNat : Int) == 34) = false := by
          apply Bool.eq_false_iff.2; intro h; apply hc; left; apply UInt8.toNat_inj.1; have := beq_iff_eq.1 h; simp; omega
        have h2 : ((s[k].toNat : Int) == 92) = false := by
          apply Bool.eq_false_iff.2; intro h; apply hc; right; apply UInt8.toNat_inj.1; have := beq_iff_eq.1 h; simp; omega
        clear hc
        have hsz : w.heap.size ≤ wr.heap.size := HB.out.size
        go_wp2_with (first
            | (at_builtin; refine app1 rfl _ _ rfl rfl (HO.out.alloc _) rfl (alloc_cell _ _ _) rfl (by omega) (by go_size) ?_; intro v1 w1 ho1 hb1; have HO1 := hid ho1; have HB1 := hid hb1; clear ho1 hb1))
        go_roundw
        case rel =>
          refine ⟨k + 1, l ++ [s[k]], by omega, by go_num, by simp; omega, ?_, own_cast HO1.out (by simp) (by simp [bytesV]), ?_⟩
          · show _ = _; rw [esc_step hlt, HE.out, HL.out]; simp
          · exact (HB.out.alloc (by go_size) _).trans HB1.out
        case measure => simp [intOf]; omega
    · have hks : k = s.size := by omega
      subst hks
      have hsz : w.heap.size ≤ wr.heap.size := HB.out.size
      go_wp2_with (first
            | (at_builtin; refine app1 rfl _ _ rfl rfl (HO.out.alloc _) rfl (alloc_cell _ _ _) rfl (by omega) (by go_size) ?_; intro v1 w1 ho1 hb1; obtain ⟨g1, cap1, rfl⟩ := ownsRow_form ho1 (by omega); have hcv := conv_own (l := l ++ [34]) (own_cast ho1 rfl (by simp [bytesV])); have HB1 := hid hb1; clear ho1 hb1))
      go_ret
      refine ⟨?_, (HB.out.alloc (by go_size) _).trans HB1.out⟩
      rw [HL.out, show s.data.toList.take s.size = s.data.toList from List.take_of_length_le (by rw [Array.length_toList]; exact Nat.le_refl _)]; rfl
end Go.Proofs.YtjplnelffiegmaaDoor
