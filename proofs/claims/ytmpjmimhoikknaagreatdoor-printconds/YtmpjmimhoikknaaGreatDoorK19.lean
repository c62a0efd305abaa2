/-
  Package value's Text.
  A text quoted, and what is cut of it.
  Print's words, as mathematics.
-/
import Derived.Test.YtmpjmimhoikknaaGreatDoorK12
import Derived.Test.YtmpjmimhoikknaaGreatDoorK13
import Derived.Test.YtmpjmimhoikknaaGreatDoorK17
import Derived.Test.YtmpjmimhoikknaaGreatDoorK18
import Derived.Lib.ItoaLen
namespace Go.Proofs.YtmpjmimhoikknaaGreatDoor.VN
open Go.RowKit Go.Joins Go.Sort

def nth8 (a0 a1 a2 a3 a4 a5 a6 a7 : Int) : Nat → Int
  | 0 => a0 | 1 => a1 | 2 => a2 | 3 => a3 | 4 => a4 | 5 => a5 | 6 => a6 | 7 => a7 | _ => 0
theorem lt8 {i : Nat} (h : i < 8) : i = 0 ∨ i = 1 ∨ i = 2 ∨ i = 3 ∨ i = 4 ∨ i = 5 ∨ i = 6 ∨ i = 7 := by omega
theorem below_on {W w1 w2 : World} (h : Below W.heap.size W w1) (h2 : Below w1.heap.size w1 w2) : Below W.heap.size W w2 := h.trans (h2.mono h.size)

def Tab (w : World) : Prop := Lib.TabIs Tryz.prog w "internal/strconv.uint64pow10" .u64 Lib.pow10Tab
theorem Tab.on {w w' : World} (h : Tab w) (hb : Below w.heap.size w w') : Tab w' := Lib.tabBelow_of_tabIs h w' hb
theorem below_grow (w : World) (q : Nat) (os : Array Obj) : Below w.heap.size w (grow (w.drewN q) os) :=
  ⟨rfl, rfl, rfl, by simp [grow], fun k hk => by
    simp only [grow, World.heap_drewN]
    rw [Array.getElem?_append_left hk]⟩
theorem itoa_any {n : Int} {w : World} (h0 : -9223372036854775808 ≤ n) (h1 : n ≤ 9223372036854775807) (ht : Tab w) :
    Calls Tryz.prog 136 #[.int .i64 n] w fun e w' => e = .returned (.string ⟨(Lib.itoa n).toArray⟩) ∧ Below w.heap.size w w' :=
  (Tryz.strconv_Itoa n h0 h1 w ht).mono (by
    rintro e w' ⟨rfl, k, os, rfl⟩
    exact ⟨rfl, below_grow _ _ _⟩)
set_option maxHeartbeats 400000 in
theorem text_bad {k n : Int} {s : ByteArray} {a0 a1 a2 a3 a4 a5 a6 a7 : Int} {w : World} (hv : validB k n s a0 a1 a2 a3 a4 a5 a6 a7 = false) :
    Calls Tryz.prog 140 #[V k n s a0 a1 a2 a3 a4 a5 a6 a7] w fun e w' => e = .returned (.string ⟨#[]⟩) ∧ Below w.heap.size w w' := by
  go_enter Tryz.func140, Tryz.ntmps140
  go_wp2_with fail
  refine valid_any.mono ?_
  rintro e w1 ⟨rfl, hb⟩
  obtain ⟨hc, hf⟩ := bcell hb
  go_wp2
  go_ret
  exact ⟨rfl, ((Below.refl _ _).alloc (Nat.le_refl _) _).trans (hb.mono (by go_size))⟩
set_option maxHeartbeats 400000 in
theorem text_int {n : Int} {s : ByteArray} {a0 a1 a2 a3 a4 a5 a6 a7 : Int} {w : World} (hv : validB 1 n s a0 a1 a2 a3 a4 a5 a6 a7 = true) (h0 : -9223372036854775808 ≤ n) (h1 : n ≤ 9223372036854775807) (ht : Tab w) :
    Calls Tryz.prog 140 #[V 1 n s a0 a1 a2 a3 a4 a5 a6 a7] w fun e w' => e = .returned (.string ⟨(Lib.itoa n).toArray⟩) ∧ Below w.heap.size w w' := by
  have HT := hid ht
  clear ht
  go_enter Tryz.func140, Tryz.ntmps140
  go_wp2_with fail
  refine valid_any.mono ?_
  rintro e w1 ⟨rfl, hb⟩
  obtain ⟨hc, hf⟩ := bcell hb
  go_wp2_with fail
  refine (itoa_any h0 h1 (HT.out.on (((Below.refl _ _).alloc (Nat.le_refl _) _).trans (hb.mono (by go_size))))).mono ?_
  rintro e w2 ⟨rfl, hb2⟩
  replace hb := below_on hb hb2
  clear hb2 hc hf
  go_wp2
  go_ret
  exact ⟨rfl, ((Below.refl _ _).alloc (Nat.le_refl _) _).trans (hb.mono (by go_size))⟩
theorem valid_size {n : Int} {s : ByteArray} {a0 a1 a2 a3 a4 a5 a6 a7 : Int} (hv : validB 2 n s a0 a1 a2 a3 a4 a5 a6 a7 = true) : s.size ≤ 64 := by
  simp [validB] at hv; exact hv.2.2
set_option maxHeartbeats 400000 in
theorem text_str {n : Int} {s : ByteArray} {a0 a1 a2 a3 a4 a5 a6 a7 : Int} {w : World} (hv : validB 2 n s a0 a1 a2 a3 a4 a5 a6 a7 = true) :
    Calls Tryz.prog 140 #[V 2 n s a0 a1 a2 a3 a4 a5 a6 a7] w fun e w' => e = .returned (.string ⟨(34 :: (esc s.data.toList ++ [34])).toArray⟩) ∧ Below w.heap.size w w' := by
  go_enter Tryz.func140, Tryz.ntmps140
  go_wp2_with fail
  refine valid_any.mono ?_
  rintro e w1 ⟨rfl, hb⟩
  obtain ⟨hc, hf⟩ := bcell hb
  go_wp2_with fail
  refine (quote_any (valid_size hv)).mono ?_
  rintro e w2 ⟨rfl, hb2⟩
  replace hb := below_on hb hb2
  clear hb2 hc hf
  go_wp2
  go_ret
  exact ⟨rfl, ((Below.refl _ _).alloc (Nat.le_refl _) _).trans (hb.mono (by go_size))⟩
set_option maxHeartbeats 400000 in
theorem text_bool {n : Int} {s : ByteArray} {a0 a1 a2 a3 a4 a5 a6 a7 : Int} {w : World} (hv : validB 3 n s a0 a1 a2 a3 a4 a5 a6 a7 = true) :
    Calls Tryz.prog 140 #[V 3 n s a0 a1 a2 a3 a4 a5 a6 a7] w fun e w' => e = .returned (.string ⟨(Lib.formatBool (n == 1)).toArray⟩) ∧ Below w.heap.size w w' := by
  go_enter Tryz.func140, Tryz.ntmps140
  go_wp2_with fail
  refine valid_any.mono ?_
  rintro e w1 ⟨rfl, hb⟩
  obtain ⟨hc, hf⟩ := bcell hb
  go_wp2_with fail
  refine (Tryz.strconv_FormatBool _ _).mono ?_
  rintro e w2 ⟨rfl, rfl⟩
  go_wp2
  go_ret
  exact ⟨rfl, ((Below.refl _ _).alloc (Nat.le_refl _) _).trans (hb.mono (by go_size))⟩

/- The text of eight numbers, up to the k-th. -/
def sep (k : Nat) : List UInt8 := if k = 0 then [] else [32]
def txtTo (x : Nat → Int) : Nat → List UInt8
  | 0 => [91]
  | k + 1 => txtTo x k ++ (sep k ++ Lib.itoa (x k))
def In64 (n : Int) : Prop := -9223372036854775808 ≤ n ∧ n ≤ 9223372036854775807
theorem txtTo_len {x : Nat → Int} (hx : ∀ i, i < 8 → In64 (x i)) (k : Nat) (hk : k ≤ 8) : (txtTo x k).length ≤ 1 + 23 * k := by
  induction k with
  | zero => simp [txtTo]
  | succ k ih =>
    have h1 := ih (by omega)
    have h2 := Lib.itoa_length_le (x k) (hx k (by omega)).1 (hx k (by omega)).2
    have h3 : (sep k).length ≤ 1 := by unfold sep; split <;> simp
    simp only [txtTo, List.length_append]
    omega
theorem index22 (a0 a1 a2 a3 a4 a5 a6 a7 : Int) (k : Nat) (hk : k < 8) (w : World) : (Instr.index 37 (H8 a0 a1 a2 a3 a4 a5 a6 a7) (.int .i64 k)).run Tryz.prog w = .ok (.int .i64 (nth8 a0 a1 a2 a3 a4 a5 a6 a7 k)) w := by
  have a3' := Tryz.isAgg3
  have z3 := Tryz.sizeOf3
  have u22 := Tryz.underlying37
  rcases lt8 hk with rfl | rfl | rfl | rfl | rfl | rfl | rfl | rfl <;> simp [Instr.index, go_sem, nth8]
theorem bytesV_append (l m : List UInt8) : bytesV l ++ Lib.byteCells m = bytesV (l ++ m) := by simp [bytesV, Lib.byteCells]
set_option maxHeartbeats 1000000 in
set_option maxRecDepth 100000 in
theorem bucketsText_any {a0 a1 a2 a3 a4 a5 a6 a7 : Int} {w : World} (hok : ∀ i, i < 8 → In64 (nth8 a0 a1 a2 a3 a4 a5 a6 a7 i)) (ht : Tab w) :
    Calls Tryz.prog 173 #[H8 a0 a1 a2 a3 a4 a5 a6 a7] w fun e w' => e = .returned (.string ⟨(txtTo (nth8 a0 a1 a2 a3 a4 a5 a6 a7) 8 ++ [93]).toArray⟩) ∧ Below w.heap.size w w' := by
  have HT := hid (Lib.tabBelow_of_tabIs ht)
  clear ht
  obtain ⟨x, hx⟩ : ∃ x, nth8 a0 a1 a2 a3 a4 a5 a6 a7 = x := ⟨_, rfl⟩
  have hix := index22 a0 a1 a2 a3 a4 a5 a6 a7
  rw [hx] at hok ⊢
  rw [hx] at hix
  have HOK := hid hok
  have HIX := hid hix
  clear hok hix hx
  go_enter Tryz.func173, Tryz.ntmps173
  go_wp2
  go_loopw [3, 8] (fun v i wr => ∃ (k : Nat) (l : List UInt8), k ≤ 8 ∧ i = .int .i64 k ∧ l.length ≤ 1 + 23 * k ∧ Hid (l = txtTo x k) ∧ Hid (wr.ownsRow w.heap.size 5 1 v l.length (bytesV l)) ∧ Hid (Below w.heap.size w wr))
    (fun _ i _ => 8 - (intOf i).toNat)
  case atStart =>
    refine ⟨0, [91], by omega, rfl, by simp, rfl, ?_, ?_⟩
    · have h := World.ownsRow_lit (base := w.heap.size) (e := 5) (size := 1) (w.alloc (.cells (#[.int .i64 a0, .int .i64 a1, .int .i64 a2, .int .i64 a3, .int .i64 a4, .int .i64 a5, .int .i64 a6, .int .i64 a7]) 37 (0, 0))) #[.int .u8 91] 1 (by simp) (by decide) rfl
      simp only [World.size_alloc] at h
      exact h
    · show Below _ _ _
      go_grown
  case round =>
    obtain ⟨k, l, hk, rfl, hl, HL, HO, HB⟩ := hrel
    have hsz : w.heap.size ≤ wr.heap.size := HB.out.size
    by_cases hlt : k < 8
    · have hi2 := HIX.out k hlt
      have HLen := hid (Lib.itoa_length_le (x k) (HOK.out k hlt).1 (HOK.out k hlt).2)
      by_cases h0 : k = 0
      · subst h0
        have hi3 : ∀ w, (Instr.index 37 (H8 a0 a1 a2 a3 a4 a5 a6 a7) (.int .i64 0)).run Tryz.prog w = .ok (.int .i64 (x 0)) w := hi2
        clear hi2
        go_wp2_with fail
        refine (Tryz.strconv_AppendInt_10 w.heap.size l.length (x 0) (HOK.out 0 hlt).1 (HOK.out 0 hlt).2 _ _ _ HO.out hsz (by omega) (HT.out.on HB.out)).mono ?_
        rintro e w2 ⟨v2, rfl, ho2, hb2, -⟩
        have HO2 := hid (own_cast ho2 rfl (bytesV_append _ _))
        have HB2 := hid hb2
        clear ho2 hb2
        go_wp2
        go_roundw
        case rel =>
          refine ⟨1, l ++ Lib.itoa (x 0), by omega, by go_num, ?_, ?_, own_cast HO2.out (by simp) rfl, HB.out.trans HB2.out⟩
          · have := HLen.out; simp only [List.length_append]; omega
          · show _ = _; rw [HL.out]; simp [txtTo, sep]
        case measure => simp [intOf]
      · have hpos : (0 : Int) < (k : Int) := by omega
        have HS := hid (show sep k = [32] by simp [sep, h0])
        clear h0
        go_wp2_with (first
            | (at_builtin; refine app1 rfl _ _ rfl rfl (HO.out.alloc _) rfl (alloc_cell _ _ _) rfl (by omega) (by go_size) ?_; intro v1 w1 ho1 hb1; have hsz1 : w.heap.size ≤ w1.heap.size := (by have := hb1.size; simp at this; omega); have HO1 := hid (own_cast ho1 rfl (bytesV_snoc l 32)); have HB1 := hid hb1; clear ho1 hb1))
        have HBa := hid ((HB.out.alloc (by go_size) _).trans HB1.out)
        refine (Tryz.strconv_AppendInt_10 w.heap.size (l.length + 1) (x k) (HOK.out k hlt).1 (HOK.out k hlt).2 _ _ _ HO1.out hsz1 (by omega) (HT.out.on HBa.out)).mono ?_
        rintro e w2 ⟨v2, rfl, ho2, hb2, -⟩
        have HO2 := hid (own_cast ho2 rfl (bytesV_append _ _))
        have HB2 := hid hb2
        clear ho2 hb2
        go_wp2
        go_roundw
        case rel =>
          refine ⟨k + 1, (l ++ [32]) ++ Lib.itoa (x k), by omega, by go_num, ?_, ?_, own_cast HO2.out (by simp only [List.length_append]; rfl) rfl, HBa.out.trans HB2.out⟩
          · have := HLen.out; simp only [List.length_append, List.length_cons, List.length_nil]; omega
          · show _ = _; rw [HL.out]; simp only [txtTo]; rw [HS.out]; simp
        case measure => simp [intOf]; omega
    · have h8 : k = 8 := by omega
      subst h8
      go_wp2_with (first
            | (at_builtin; refine app1 rfl _ _ rfl rfl (HO.out.alloc _) rfl (alloc_cell _ _ _) rfl (by omega) (by go_size) ?_; intro v1 w1 ho1 hb1; obtain ⟨g1, cap1, rfl⟩ := ownsRow_form ho1 (by omega); have hcv := conv_own (l := l ++ [93]) (own_cast ho1 rfl (by simp [bytesV])); have HB1 := hid hb1; clear ho1 hb1))
      go_ret
      refine ⟨?_, (HB.out.alloc (by go_size) _).trans HB1.out⟩
      rw [HL.out]; rfl

/- The text of a value. -/
def textV (k n : Int) (s : ByteArray) (a0 a1 a2 a3 a4 a5 a6 a7 : Int) : List UInt8 :=
  if k = 1 then Lib.itoa n
  else if k = 2 then 34 :: (esc s.data.toList ++ [34])
  else if k = 3 then Lib.formatBool (n == 1)
  else txtTo (nth8 a0 a1 a2 a3 a4 a5 a6 a7) 8 ++ [93]
set_option maxHeartbeats 400000 in
theorem text_hist {n : Int} {s : ByteArray} {a0 a1 a2 a3 a4 a5 a6 a7 : Int} {w : World} (hv : validB 4 n s a0 a1 a2 a3 a4 a5 a6 a7 = true) (hok : ∀ i, i < 8 → In64 (nth8 a0 a1 a2 a3 a4 a5 a6 a7 i)) (ht : Tab w) :
    Calls Tryz.prog 140 #[V 4 n s a0 a1 a2 a3 a4 a5 a6 a7] w fun e w' => e = .returned (.string ⟨(txtTo (nth8 a0 a1 a2 a3 a4 a5 a6 a7) 8 ++ [93]).toArray⟩) ∧ Below w.heap.size w w' := by
  have HT := hid ht
  have HOK := hid hok
  clear ht hok
  go_enter Tryz.func140, Tryz.ntmps140
  go_wp2_with fail
  refine valid_any.mono ?_
  rintro e w1 ⟨rfl, hb⟩
  obtain ⟨hc, hf⟩ := bcell hb
  go_wp2_with fail
  refine (bucketsText_any HOK.out (HT.out.on (((Below.refl _ _).alloc (Nat.le_refl _) _).trans (hb.mono (by go_size))))).mono ?_
  rintro e w2 ⟨rfl, hb2⟩
  replace hb := below_on hb hb2
  clear hb2 hc hf
  go_wp2
  go_ret
  exact ⟨rfl, ((Below.refl _ _).alloc (Nat.le_refl _) _).trans (hb.mono (by go_size))⟩
theorem text_valid {k n : Int} {s : ByteArray} {a0 a1 a2 a3 a4 a5 a6 a7 : Int} {w : World} (hv : validB k n s a0 a1 a2 a3 a4 a5 a6 a7 = true) (hn : In64 n) (hok : ∀ i, i < 8 → In64 (nth8 a0 a1 a2 a3 a4 a5 a6 a7 i)) (ht : Tab w) :
    Calls Tryz.prog 140 #[V k n s a0 a1 a2 a3 a4 a5 a6 a7] w fun e w' => e = .returned (.string ⟨(textV k n s a0 a1 a2 a3 a4 a5 a6 a7).toArray⟩) ∧ Below w.heap.size w w' := by
  by_cases h1 : k = 1
  · subst h1
    simp only [textV]
    exact text_int hv hn.1 hn.2 ht
  · by_cases h2 : k = 2
    · subst h2
      exact text_str hv
    · by_cases h3 : k = 3
      · subst h3
        exact text_bool hv
      · have h4 : k = 4 := by
          apply Classical.byContradiction
          intro h4
          simp [validB, h1, h2, h3, h4] at hv
        subst h4
        exact text_hist hv hok ht
/- The numerals. -/
def isNum (c : UInt8) : Prop := c = 45 ∨ (48 ≤ c.toNat ∧ c.toNat ≤ 57)
def val (l : List UInt8) : Nat := l.foldl (fun a c => 10 * a + (c.toNat - 48)) 0
theorem val_snoc (l : List UInt8) (c : UInt8) : val (l ++ [c]) = 10 * val l + (c.toNat - 48) := by simp [val]
theorem dig_toNat {d : Nat} (h : d < 10) : (UInt8.ofNat (48 + d)).toNat = 48 + d := by
  rw [UInt8.toNat_ofNat']; omega
theorem val_dec (u : Nat) : val (Lib.decDigits u) = u := by
  induction u using Nat.strongRecOn with
  | ind u ih =>
    rw [Lib.decDigits]
    split
    · rename_i h
      simp only [val, List.foldl_cons, List.foldl_nil]
      rw [dig_toNat h]; omega
    · rename_i h
      rw [val_snoc, ih (u / 10) (by omega), dig_toNat (by omega)]; omega
theorem dec_num (u : Nat) : ∀ c ∈ Lib.decDigits u, 48 ≤ c.toNat ∧ c.toNat ≤ 57 := by
  induction u using Nat.strongRecOn with
  | ind u ih =>
    rw [Lib.decDigits]
    split
    · rename_i h
      intro c hc
      obtain rfl := List.mem_singleton.1 hc
      rw [dig_toNat h]; omega
    · rename_i h
      intro c hc
      rw [List.mem_append] at hc
      rcases hc with hc | hc
      · exact ih (u / 10) (by omega) c hc
      · obtain rfl := List.mem_singleton.1 hc
        rw [dig_toNat (by omega)]; omega
theorem dec_ne (u : Nat) : Lib.decDigits u ≠ [] := by
  rw [Lib.decDigits]
  split <;> simp
theorem itoa_num (n : Int) : ∀ c ∈ Lib.itoa n, isNum c := by
  unfold Lib.itoa isNum
  split
  · intro c hc
    rcases List.mem_cons.1 hc with rfl | hc
    · exact Or.inl rfl
    · exact Or.inr (dec_num _ c hc)
  · intro c hc
    exact Or.inr (dec_num _ c hc)
theorem itoa_ne (n : Int) : Lib.itoa n ≠ [] := by
  unfold Lib.itoa
  split
  · simp
  · exact dec_ne _
theorem dec_head45 (u : Nat) (l : List UInt8) : Lib.decDigits u ≠ 45 :: l := by
  intro h
  have := dec_num u 45 (by rw [h]; simp)
  simp at this
theorem itoa_inj {n m : Int} (h : Lib.itoa n = Lib.itoa m) : n = m := by
  unfold Lib.itoa at h
  split at h <;> split at h
  · have h1 := congrArg val (List.cons.inj h).2
    rw [val_dec, val_dec] at h1; omega
  · exact absurd h.symm (dec_head45 _ _)
  · exact absurd h (dec_head45 _ _)
  · have h1 := congrArg val h
    rw [val_dec, val_dec] at h1; omega
theorem split_num {p q r r' : List UInt8} {c d : UInt8} (hp : ∀ x ∈ p, isNum x) (hq : ∀ x ∈ q, isNum x) (hc : ¬ isNum c) (hd : ¬ isNum d) (h : p ++ c :: r = q ++ d :: r') : p = q ∧ c = d ∧ r = r' := by
  induction p generalizing q with
  | nil =>
    cases q with
    | nil => simp at h; exact ⟨rfl, h.1, h.2⟩
    | cons y q => simp at h; exact absurd (h.1 ▸ hq y (by simp)) hc
  | cons x p ih =>
    cases q with
    | nil => simp at h; exact absurd (h.1 ▸ hp x (by simp)) hd
    | cons y q =>
      simp at h
      obtain ⟨rfl, h⟩ := h
      obtain ⟨rfl, h2, h3⟩ := ih (fun z hz => hp z (by simp [hz])) (fun z hz => hq z (by simp [hz])) h
      exact ⟨rfl, h2, h3⟩
theorem not32 : ¬ isNum 32 := by unfold isNum; decide
theorem not93 : ¬ isNum 93 := by unfold isNum; decide
theorem txt_flat (x : Nat → Int) : txtTo x 8 ++ [93] = 91 :: (Lib.itoa (x 0) ++ 32 :: (Lib.itoa (x 1) ++ 32 :: (Lib.itoa (x 2) ++ 32 :: (Lib.itoa (x 3) ++ 32 :: (Lib.itoa (x 4) ++ 32 :: (Lib.itoa (x 5) ++ 32 :: (Lib.itoa (x 6) ++ 32 :: (Lib.itoa (x 7) ++ 93 :: [])))))))) := by
  simp [txtTo, sep]
theorem txt_inj {x y : Nat → Int} (h : txtTo x 8 ++ [93] = txtTo y 8 ++ [93]) : ∀ i, i < 8 → x i = y i := by
  rw [txt_flat, txt_flat] at h
  have h0 := (List.cons.inj h).2
  obtain ⟨e0, _, h1⟩ := split_num (itoa_num _) (itoa_num _) not32 not32 h0
  obtain ⟨e1, _, h2⟩ := split_num (itoa_num _) (itoa_num _) not32 not32 h1
  obtain ⟨e2, _, h3⟩ := split_num (itoa_num _) (itoa_num _) not32 not32 h2
  obtain ⟨e3, _, h4⟩ := split_num (itoa_num _) (itoa_num _) not32 not32 h3
  obtain ⟨e4, _, h5⟩ := split_num (itoa_num _) (itoa_num _) not32 not32 h4
  obtain ⟨e5, _, h6⟩ := split_num (itoa_num _) (itoa_num _) not32 not32 h5
  obtain ⟨e6, _, h7⟩ := split_num (itoa_num _) (itoa_num _) not32 not32 h6
  obtain ⟨e7, _, _⟩ := split_num (itoa_num _) (itoa_num _) not93 not93 h7
  intro i hi
  rcases lt8 hi with rfl | rfl | rfl | rfl | rfl | rfl | rfl | rfl
  · exact itoa_inj e0
  · exact itoa_inj e1
  · exact itoa_inj e2
  · exact itoa_inj e3
  · exact itoa_inj e4
  · exact itoa_inj e5
  · exact itoa_inj e6
  · exact itoa_inj e7
/- The quoted texts. -/
theorem esc_inj {x y : List UInt8} (h : esc x = esc y) : x = y := by
  induction x generalizing y with
  | nil =>
    cases y with
    | nil => rfl
    | cons b y => simp [esc, escC] at h; split at h <;> simp at h
  | cons a x ih =>
    cases y with
    | nil => simp [esc, escC] at h; split at h <;> simp at h
    | cons b y =>
      simp only [esc, escC] at h
      split at h <;> split at h
      · simp at h
        obtain ⟨rfl, h⟩ := h
        rw [ih h]
      · rename_i h1 h2
        simp at h
        exact absurd (Or.inr h.1.symm) h2
      · rename_i h1 h2
        simp at h
        exact absurd (Or.inr h.1) h1
      · simp at h
        obtain ⟨rfl, h⟩ := h
        rw [ih h]
theorem valid_kind {k n : Int} {s : ByteArray} {a0 a1 a2 a3 a4 a5 a6 a7 : Int} (hv : validB k n s a0 a1 a2 a3 a4 a5 a6 a7 = true) : k = 1 ∨ k = 2 ∨ k = 3 ∨ k = 4 := by
  by_cases h1 : k = 1
  · exact Or.inl h1
  · by_cases h2 : k = 2
    · exact Or.inr (Or.inl h2)
    · by_cases h3 : k = 3
      · exact Or.inr (Or.inr (Or.inl h3))
      · by_cases h4 : k = 4
        · exact Or.inr (Or.inr (Or.inr h4))
        · simp [validB, h1, h2, h3, h4] at hv
/- The first byte of a text tells the kind. -/
def kindOf (l : List UInt8) : Int := match l with
  | [] => 0
  | c :: _ => if c = 34 then 2 else if c = 116 ∨ c = 102 then 3 else if c = 91 then 4 else 1
theorem kindOf_num {l : List UInt8} (hn : l ≠ []) (h : ∀ c ∈ l, isNum c) : kindOf l = 1 := by
  cases l with
  | nil => exact absurd rfl hn
  | cons c l =>
    have hc := h c (by simp)
    unfold kindOf
    simp only
    rw [if_neg, if_neg, if_neg]
    · rintro rfl; exact absurd hc (by unfold isNum; decide)
    · rintro (rfl | rfl)
      · exact absurd hc (by unfold isNum; decide)
      · exact absurd hc (by unfold isNum; decide)
    · rintro rfl; exact absurd hc (by unfold isNum; decide)
theorem kind_text {k n : Int} {s : ByteArray} {a0 a1 a2 a3 a4 a5 a6 a7 : Int} (hv : validB k n s a0 a1 a2 a3 a4 a5 a6 a7 = true) : kindOf (textV k n s a0 a1 a2 a3 a4 a5 a6 a7) = k := by
  rcases valid_kind hv with rfl | rfl | rfl | rfl
  · exact kindOf_num (itoa_ne n) (itoa_num n)
  · rfl
  · show kindOf (Lib.formatBool (n == 1)) = 3
    cases n == 1 <;> rfl
  · show kindOf (txtTo _ 8 ++ [93]) = 4
    rw [txt_flat]; rfl
theorem bool_inj {b c : Bool} (h : Lib.formatBool b = Lib.formatBool c) : b = c := by
  cases b <;> cases c <;> first | rfl | exact absurd h (by decide)
theorem data_inj {s t : ByteArray} (h : s.data.toList = t.data.toList) : s = t := by
  apply bytes_toList_inj
  rw [ByteArray.toList_eq, ByteArray.toList_eq]; exact h
theorem text_inj {k n : Int} {s : ByteArray} {a0 a1 a2 a3 a4 a5 a6 a7 : Int} {k' n' : Int} {s' : ByteArray} {b0 b1 b2 b3 b4 b5 b6 b7 : Int} (hv : validB k n s a0 a1 a2 a3 a4 a5 a6 a7 = true) (hv' : validB k' n' s' b0 b1 b2 b3 b4 b5 b6 b7 = true) (h : textV k n s a0 a1 a2 a3 a4 a5 a6 a7 = textV k' n' s' b0 b1 b2 b3 b4 b5 b6 b7) :
    eqV k n s a0 a1 a2 a3 a4 a5 a6 a7 k' n' s' b0 b1 b2 b3 b4 b5 b6 b7 = true := by
  obtain rfl : k = k' := by rw [← kind_text hv, ← kind_text hv', h]
  rcases valid_kind hv with rfl | rfl | rfl | rfl
  · have hn : n = n' := itoa_inj h
    simp [validB, zeroH, eqH] at hv hv'
    obtain ⟨rfl, rfl, rfl, rfl, rfl, rfl, rfl, rfl, rfl⟩ := hv
    obtain ⟨rfl, rfl, rfl, rfl, rfl, rfl, rfl, rfl, rfl⟩ := hv'
    subst hn
    simp [eqV, eqH]
  · have hn : s = s' := data_inj (esc_inj (List.append_cancel_right (List.cons.inj h).2))
    simp [validB, zeroH, eqH] at hv hv'
    obtain ⟨rfl, ⟨rfl, rfl, rfl, rfl, rfl, rfl, rfl, rfl⟩, _⟩ := hv
    obtain ⟨rfl, ⟨rfl, rfl, rfl, rfl, rfl, rfl, rfl, rfl⟩, _⟩ := hv'
    subst hn
    simp [eqV, eqH]
  · have hn : (n == 1) = (n' == 1) := bool_inj h
    simp [validB, zeroH, eqH] at hv hv'
    obtain ⟨h1, rfl, rfl, rfl, rfl, rfl, rfl, rfl, rfl, rfl⟩ := hv
    obtain ⟨h2, rfl, rfl, rfl, rfl, rfl, rfl, rfl, rfl, rfl⟩ := hv'
    have : n = n' := by rcases h1 with rfl | rfl <;> rcases h2 with rfl | rfl <;> first | rfl | exact absurd hn (by decide)
    subst this
    simp [eqV, eqH]
  · have hx := txt_inj h
    simp [validB] at hv hv'
    obtain ⟨rfl, rfl⟩ := hv
    obtain ⟨rfl, rfl⟩ := hv'
    have e0 := hx 0 (by omega); have e1 := hx 1 (by omega); have e2 := hx 2 (by omega); have e3 := hx 3 (by omega)
    have e4 := hx 4 (by omega); have e5 := hx 5 (by omega); have e6 := hx 6 (by omega); have e7 := hx 7 (by omega)
    simp only [nth8] at e0 e1 e2 e3 e4 e5 e6 e7
    subst e0 e1 e2 e3 e4 e5 e6 e7
    simp [eqV, eqH]
theorem text_of_eq {k n : Int} {s : ByteArray} {a0 a1 a2 a3 a4 a5 a6 a7 : Int} {k' n' : Int} {s' : ByteArray} {b0 b1 b2 b3 b4 b5 b6 b7 : Int} (h : eqV k n s a0 a1 a2 a3 a4 a5 a6 a7 k' n' s' b0 b1 b2 b3 b4 b5 b6 b7 = true) : textV k n s a0 a1 a2 a3 a4 a5 a6 a7 = textV k' n' s' b0 b1 b2 b3 b4 b5 b6 b7 := by
  simp [eqV, eqH] at h
  obtain ⟨⟨rfl, rfl, rfl⟩, rfl, rfl, rfl, rfl, rfl, rfl, rfl, rfl⟩ := h
  rfl
theorem text_ne {k n : Int} {s : ByteArray} {a0 a1 a2 a3 a4 a5 a6 a7 : Int} (hv : validB k n s a0 a1 a2 a3 a4 a5 a6 a7 = true) : textV k n s a0 a1 a2 a3 a4 a5 a6 a7 ≠ [] := by
  intro h
  have h2 := kind_text hv
  rw [h] at h2
  have h3 := valid_kind hv
  simp [kindOf] at h2
  omega
end Go.Proofs.YtmpjmimhoikknaaGreatDoor.VN
namespace Go.Proofs.YtmpjmimhoikknaaGreatDoor
open Go.RowKit Go.Joins
theorem app2 {ops : Array Oper} {rest : List Oper} {o : Oper} {a : Act} {Q : Exit → Act → World → Prop} {w : World} {B n : Nat} {xs : List Value} {v c : Value} {g : Nat}
    (hgd : o.guard = none) (s x : Operand) (ho : o.op = .call { callee := .builtin .append, args := #[s, x], argTypes := #[105, 105] })
    (hs : a.eval s = v) (hown : w.ownsRow B 5 1 v n xs) (hx : a.eval x = .slice (some ⟨g, 0, none⟩) 1 1) (hc : w.cell? ⟨g, 0, none⟩ = some c) (h1 : c.oneCell' = true) (hn : n ≤ 4000000) (hB : B ≤ w.heap.size)
    (h : ∀ v' w', w'.ownsRow B 5 1 v' (n + 1) (xs ++ [c]) → Below B w w' → wpList Tryz.prog ops Q rest (a.put o.dst v') w') : wpList Tryz.prog ops Q (o :: rest) a w := by
  obtain ⟨i0, hi, hz0, hz1, hz2⟩ := info_parts Tryz.info5
  refine wpList_append_own w hgd s x 105 ho B 5 i0 (.int .u8 0) 1 1 Tryz.underlying105 hi hz0 hz1 hz2 rfl (by decide) v n xs hs hown ⟨g, 0, none⟩ 1 1 [c] hx rfl ?_ ?_ ?_ ?_ hB ?_
  · intro j u hj
    match j, hj with
    | 0, hj => simp at hj; subst hj; simpa [Addr.add] using hc
  · intro u hu; simp at hu; subst hu; exact h1
  · unfold maxLen; omega
  · omega
  · intro v' w' h1 h2 _
    exact h v' w' h1 ((Below.refl B w).grown h2 hB (fun k e => (hown.lt k e).1))
def escC (c : UInt8) : List UInt8 := if nSl c then [92, c] else [c]
def esc : List UInt8 → List UInt8
  | [] => []
  | c :: r => escC c ++ esc r
def quoted (l : List UInt8) : List UInt8 := 34 :: (esc l ++ [34])
theorem esc_append (x y : List UInt8) : esc (x ++ y) = esc x ++ esc y := by
  induction x with
  | nil => rfl
  | cons c r ih => simp [esc, ih]
theorem escC_le (c : UInt8) : 1 ≤ (escC c).length ∧ (escC c).length ≤ 2 := by
  unfold escC; split <;> simp
theorem esc_le (x : List UInt8) : x.length ≤ (esc x).length ∧ (esc x).length ≤ 2 * x.length := by
  induction x with
  | nil => simp [esc]
  | cons c r ih => have := escC_le c; simp only [esc, List.length_append, List.length_cons]; omega
theorem nSl_cases (c : UInt8) : (nSl c = true ∧ escC c = [92, c]) ∨ (nSl c = false ∧ escC c = [c] ∧ ¬ c.toNat = 34 ∧ ¬ c.toNat = 92) := by
  cases h : nSl c with
  | true => left; exact ⟨rfl, by unfold escC; rw [if_pos h]⟩
  | false =>
    right
    refine ⟨rfl, by unfold escC; rw [if_neg (by simp [h])], ?_⟩
    simp [nSl] at h; exact h
theorem txt_esc : ∀ (l acc : List UInt8) (k : Nat), txtF acc false k (esc l ++ [34]) = if acc.length + l.length ≤ 64 then some (acc ++ l, k + (esc l).length + 2) else none
  | [], acc, k => by
    by_cases h : acc.length ≤ 64
    · rw [if_pos (by simpa using h)]
      show txtF acc false k (34 :: []) = _
      rw [tx_end acc [] k (by omega) rfl]; simp [esc]
    · rw [if_neg (by simpa using h)]
      exact txtF_long _ _ _ _ (by omega)
  | c :: r, acc, k => by
    by_cases h : 64 < acc.length
    · rw [if_neg (by simp; omega)]
      exact txtF_long _ _ _ _ h
    · rcases nSl_cases c with ⟨hn, he⟩ | ⟨hn, he, h1, h2⟩
      · have e : esc (c :: r) ++ [34] = 92 :: c :: (esc r ++ [34]) := by simp [esc, he]
        rw [e, tx_sl acc _ k h rfl, tx_app1 acc _ _ h hn, txt_esc r (acc ++ [c]) (k + 1 + 1)]
        have e2 : (esc (c :: r)).length = 2 + (esc r).length := by simp [esc, he]; omega
        simp only [List.length_append, List.length_cons, List.length_nil, List.append_assoc, List.singleton_append]
        rw [e2]
        by_cases h64 : acc.length + (r.length + 1) ≤ 64
        · rw [if_pos (by omega), if_pos (by omega)]; congr 2; omega
        · rw [if_neg (by omega), if_neg (by omega)]
      · have e : esc (c :: r) ++ [34] = c :: (esc r ++ [34]) := by simp [esc, he]
        rw [e, tx_app0 acc _ k h h1 h2, txt_esc r (acc ++ [c]) (k + 1)]
        have e2 : (esc (c :: r)).length = 1 + (esc r).length := by simp [esc, he]; omega
        simp only [List.length_append, List.length_cons, List.length_nil, List.append_assoc, List.singleton_append]
        rw [e2]
        by_cases h64 : acc.length + (r.length + 1) ≤ 64
        · rw [if_pos (by omega), if_pos (by omega)]; congr 2; omega
        · rw [if_neg (by omega), if_neg (by omega)]
theorem quoted_len (l : List UInt8) : (quoted l).length = (esc l).length + 2 := by simp [quoted]
theorem first_quoted (l : List UInt8) : firstS (quoted l) = if l.length ≤ 64 then some (⟨3, l, 0, 0⟩, (quoted l).length) else none := by
  rw [firstS_t (l := quoted l) (by simp [quoted]) rfl]
  have e := txt_esc l [] 0
  simp only [List.length_nil, Nat.zero_add, List.nil_append] at e
  by_cases h : l.length ≤ 64
  · rw [if_pos h] at e ⊢
    rw [textS_yes (quoted l) l ((esc l).length + 2) e, quoted_len]
  · rw [if_neg h] at e ⊢
    exact textS_no (l := quoted l) e
theorem lex_quoted {l : List UInt8} (h : l.length ≤ 64) : lexO (quoted l) = ([⟨3, l, 0, 0⟩], 0, 0) := by
  have hf := first_quoted l
  rw [if_pos h] at hf
  have hl := quoted_len l
  have he := esc_le l
  refine lexO_ok (by omega) ?_
  show lexA 0 (34 :: (esc l ++ [34])) = _
  rw [lexA_some 0 (by decide) (show firstS (34 :: (esc l ++ [34])) = _ from hf)]
  rw [show List.drop (quoted l).length (34 :: (esc l ++ [34])) = [] from List.drop_length (l := quoted l), lexA_nil]
theorem lex_quoted_no {l : List UInt8} (h : ¬ l.length ≤ 64) : ∃ (ts : List Tk) (a : Nat) (er : Int), lexO (quoted l) = (ts, a, er) ∧ ¬ er = 0 := by
  have hf := first_quoted l
  rw [if_neg h] at hf
  by_cases h2 : 2048 < (quoted l).length
  · exact ⟨_, _, _, lexO_long h2, by decide⟩
  · exact ⟨_, _, _, lexO_bad h2 (lexA_no 0 (by decide) hf), by decide⟩
theorem esc_step {l : List UInt8} {k : Nat} (h : k < l.length) : esc (l.take (k + 1)) = esc (l.take k) ++ escC l[k] := by
  rw [List.take_succ_eq_append_getElem h, esc_append]; simp [esc]
end Go.Proofs.YtmpjmimhoikknaaGreatDoor
namespace Go.Proofs.YtmpjmimhoikknaaGreatDoor
open Go.RowKit Go.Joins

/- Pieces with commas between. -/
def sepL : List (List (List UInt8)) → List (List UInt8)
  | [] => []
  | [x] => x
  | x :: y :: r => x ++ wComma :: sepL (y :: r)
theorem sepL_snoc (x : List (List UInt8)) : ∀ l : List (List (List UInt8)), l ≠ [] → sepL (l ++ [x]) = sepL l ++ wComma :: x
  | [], h => absurd rfl h
  | [a], _ => rfl
  | a :: b :: r, _ => by
    have ih := sepL_snoc x (b :: r) (by simp)
    show a ++ wComma :: sepL (b :: r ++ [x]) = _
    rw [ih]
    show a ++ wComma :: (sepL (b :: r) ++ wComma :: x) = (a ++ wComma :: sepL (b :: r)) ++ wComma :: x
    simp
theorem sepL_len (c : Nat) : ∀ l : List (List (List UInt8)), (∀ x ∈ l, x.length ≤ c) → (sepL l).length ≤ (c + 1) * l.length
  | [], _ => by simp [sepL]
  | [a], h => by have := h a (by simp); simp [sepL]; omega
  | a :: b :: r, h => by
    have h1 := h a (by simp)
    have := sepL_len c (b :: r) (fun x hx => h x (by simp [hx]))
    simp only [sepL, List.length_append, List.length_cons, Nat.mul_add, Nat.mul_one] at this ⊢
    omega
theorem sepL_take {l : List (List (List UInt8))} {i : Nat} {x : List (List UInt8)} (h : l[i]? = some x) : sepL (l.take (i + 1)) = sepL (l.take i) ++ (if i = 0 then x else wComma :: x) := by
  have hi := (List.getElem?_eq_some_iff.1 h).1
  rw [List.take_add_one, h]
  by_cases h0 : i = 0
  · subst h0; simp [sepL]
  · rw [if_neg h0]
    exact sepL_snoc x _ (fun e => by have h1 := congrArg List.length e; rw [List.length_take] at h1; simp only [List.length_nil] at h1; omega)
theorem sepL_take_le {l : List (List (List UInt8))} (i : Nat) : (sepL (l.take i)).length ≤ (sepL l).length := by
  by_cases h : i < l.length
  · have : ∀ k, i + k ≤ l.length → (sepL (l.take i)).length ≤ (sepL (l.take (i + k))).length := by
      intro k
      induction k with
      | zero => intro _; exact Nat.le_refl _
      | succ k ih =>
        intro hk
        have h1 := ih (by omega)
        have h2 := sepL_take (l := l) (i := i + k) (List.getElem?_eq_getElem (by omega))
        rw [← Nat.add_assoc, h2, List.length_append]; omega
    have h2 := this (l.length - i) (by omega)
    rwa [show i + (l.length - i) = l.length by omega, List.take_length] at h2
  · rw [List.take_of_length_le (by omega)]; exact Nat.le_refl _
def nameP (l : List (List UInt8)) : List (List (List UInt8)) := l.map fun x => [x]
def aggP1 (a : Int × List UInt8) : List (List UInt8) := if a.1 = 1 then [wordL aggL a.1] else [wordL aggL a.1, a.2]
def aggP (l : List (Int × List UInt8)) : List (List (List UInt8)) := l.map aggP1
/- A node's value as a text. -/
def vtx (q : Nx) : List UInt8 := if VN.validB q.np.vk q.np.vn (St q.np.vs) q.h0 q.h1 q.h2 q.h3 q.h4 q.h5 q.h6 q.h7 then VN.textV q.np.vk q.np.vn (St q.np.vs) q.h0 q.h1 q.h2 q.h3 q.h4 q.h5 q.h6 q.h7 else []
abbrev Xn := Np × List UInt8
def xn (q : Nx) : Xn := (q.np, vtx q)
def fetchW (n : Np) : List (List UInt8) := [wFetch, n.s] ++ (if n.from_ = 0 ∧ n.to_ = 1099511627775 then [] else [wFrom, Lib.itoa n.from_, wTo, Lib.itoa n.to_])
def lAt (n : Np) (k : Nat) : Nat := (n.l.getD k 0).toNat
def kindAt (xs : List Xn) (i : Nat) : Int := ((xs[i]?).map (·.1.kind)).getD 0
def inB (l : List (List UInt8)) : List (List UInt8) := [wOpen] ++ l ++ [wShut]
/- A condition's words, over those of the nodes that it names. -/
def bdW (xs : List Xn) (p : Nat → List (List UInt8)) (j : Nat) (least : Int) : List (List UInt8) := if bindsN (kindAt xs j) < least then inB (p j) else p j
def condX (xs : List Xn) (p : Nat → List (List UInt8)) (n : Np) (vt : List UInt8) : List (List UInt8) :=
  if n.kind = 11 ∨ n.kind = 12 then bdW xs p (lAt n 0) (bindsN n.kind) ++ [kindL.getD n.kind.toNat []] ++ bdW xs p (lAt n 1) (bindsN n.kind + 1)
  else if n.kind = 13 then [wNot] ++ bdW xs p (lAt n 0) 3
  else if n.kind = 14 then [n.s, wordL howL n.n, vt]
  else [n.s, wHas, quoted n.vs]
def tailX (p : Nat → List (List UInt8)) (n : Np) : List (List UInt8) :=
  if n.kind = 2 then p (lAt n 1)
  else if n.kind = 3 then sepL (nameP n.names)
  else if n.kind = 4 then [Lib.itoa n.n]
  else if n.kind = 5 then sepL (nameP n.names) ++ [wColon] ++ sepL (aggP n.aggs)
  else if n.kind = 6 then [Lib.itoa n.n, wBy, n.s]
  else inB (p (lAt n 1))
def stepX (p : Nat → List (List UInt8)) (n : Np) : List (List UInt8) := p (lAt n 0) ++ [wBar, kindL.getD n.kind.toNat []] ++ tailX p n
def isCnd (k : Int) : Prop := k = 11 ∨ k = 12 ∨ k = 13 ∨ k = 14 ∨ k = 15
instance (k : Int) : Decidable (isCnd k) := by unfold isCnd; infer_instance
def nodeX (xs : List Xn) (p : Nat → List (List UInt8)) (n : Np) (vt : List UInt8) : List (List UInt8) :=
  if n.kind = 1 then fetchW n else if isCnd n.kind then condX xs p n vt else stepX p n
def wd (xs : List Xn) : Nat → Nat → List (List UInt8)
  | 0, _ => []
  | d + 1, i => match xs[i]? with
    | none => []
    | some x => nodeX xs (wd xs d) x.1 x.2
/- Nodes that name as many as they must, all ahead. -/
def Ahd (xs : List Xn) : Prop := ∀ (i : Nat) (x : Xn), xs[i]? = some x → (x.1.l.length : Int) = belowN x.1.kind ∧ ∀ e ∈ x.1.l, 0 ≤ e ∧ e < (i : Int)
theorem wd_some {xs : List Xn} {d i : Nat} {x : Xn} (h : xs[i]? = some x) : wd xs (d + 1) i = nodeX xs (wd xs d) x.1 x.2 := by
  show (match xs[i]? with | none => [] | some x => nodeX xs (wd xs d) x.1 x.2) = _
  rw [h]
end Go.Proofs.YtmpjmimhoikknaaGreatDoor
