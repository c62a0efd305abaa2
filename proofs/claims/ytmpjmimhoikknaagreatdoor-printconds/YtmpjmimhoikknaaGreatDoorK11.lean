/-
  What number returns.
  Rows of bytes of a call's own: append, and their text.
  What text returns.
  What first returns.
-/
import Derived.Test.YtmpjmimhoikknaaGreatDoorK10
import Derived.Lib.SmallJoins
import Derived.Lib.Builder
namespace Go.Proofs.YtmpjmimhoikknaaGreatDoor
open Go.RowKit

theorem trim_dig (l : List UInt8) : trimL [45] l = digitsOf l := by
  unfold trimL digitsOf neg1
  cases l with
  | nil => rfl
  | cons c r =>
    by_cases h : c = 45
    · subst h; rfl
    · have h1 : ([45] : List UInt8).isPrefixOf (c :: r) = false := by simp [List.isPrefixOf]; exact fun e => h e.symm
      have h2 : ((c :: r).head? == some 45) = false := by simp [h]
      rw [h1, h2]; rfl
theorem sgn_digits (l : List UInt8) : sgnL (neg1 l) ++ digitsOf l = l := by
  unfold digitsOf sgnL
  by_cases h : neg1 l = true
  · rw [if_pos h, if_pos h]
    cases l with
    | nil => simp [neg1] at h
    | cons c r => simp [neg1] at h; subst h; rfl
  · rw [if_neg h, if_neg h]; rfl
theorem sgnL_len (l : List UInt8) : (sgnL (neg1 l)).length = sgn1 l := by
  unfold sgnL sgn1; split <;> rfl
theorem take_digits (l : List UInt8) (n : Nat) : l.take (n + sgn1 l) = sgnL (neg1 l) ++ (digitsOf l).take n := by
  have h := sgn_digits l
  have h2 := sgnL_len l
  generalize neg1 l = ng at *
  generalize digitsOf l = D at *
  generalize sgn1 l = g at *
  subst h
  rw [List.take_append, h2, List.take_of_length_le (by omega), show n + g - g = n by omega]
theorem numS_a {l : List UInt8} (h : spanN isDg (digitsOf l) = 0) : numS l = none := by unfold numS; rw [if_pos (.inl h)]
theorem numS_b {l : List UInt8} (h : spanN isDg (digitsOf l) ≠ spanN isWd (digitsOf l)) : numS l = none := by unfold numS; rw [if_pos (.inr h)]
theorem numS_c {l : List UInt8} (h : ¬ spanN isDg (digitsOf l) = 0) (h1 : spanN isDg (digitsOf l) = spanN isWd (digitsOf l)) (h2 : (digitsOf l).head? = some 48 ∧ 1 < spanN isDg (digitsOf l) + sgn1 l) : numS l = none := by
  unfold numS; rw [if_neg (fun h3 => h3.elim h (fun h4 => h4 h1)), if_pos h2]
theorem numS_d {l : List UInt8} (h : ¬ spanN isDg (digitsOf l) = 0) (h1 : spanN isDg (digitsOf l) = spanN isWd (digitsOf l)) (h2 : ¬ ((digitsOf l).head? = some 48 ∧ 1 < spanN isDg (digitsOf l) + sgn1 l)) :
    numS l = (numV (neg1 l) (dval ((digitsOf l).take (spanN isDg (digitsOf l))))).map (fun v => (⟨2, [], v, 0⟩, spanN isDg (digitsOf l) + sgn1 l)) := by
  unfold numS; rw [if_neg (fun h3 => h3.elim h (fun h4 => h4 h1)), if_neg h2]
theorem head_idx {D : List UInt8} (h : 0 < D.length) : D.head? = some (D[0]) := by
  cases D with
  | nil => simp at h
  | cons c r => rfl
abbrev boxW (w : World) : World := w.alloc (.cells z31 85)
set_option maxRecDepth 100000 in
set_option maxHeartbeats 1000000 in
theorem num_any (l : List UInt8) (hl : (l.length : Int) ≤ 140737488355328) (w : World) (hG : Gd w) : Calls Tryz.prog 154 #[.string (St l)] w fun e w' => e = .returned (ansV (numS l)) ∧ Below w.heap.size w w' := by
  have hsz := St_size l
  have HT := hid (trim_any l [45])
  rw [trim_dig] at HT
  have hdl := digitsOf_len l
  have hD := St_size (digitsOf l)
  have H1 := hid (span23 (digitsOf l) (by omega))
  have H2 := hid (span33 (digitsOf l) (by omega))
  have HA := hid (@numS_a l)
  have HB := hid (@numS_b l)
  have HC := hid (@numS_c l)
  have HDD := hid (@numS_d l)
  have hn1 := spanN_le isDg (digitsOf l)
  have hn2 := spanN_le isWd (digitsOf l)
  have HTK := hid (take_digits l (spanN isDg (digitsOf l)))
  have HDG := hid (spanN_take isDg (digitsOf l))
  have hs := slT l (spanN isDg (digitsOf l) + sgn1 l) (by omega)
  simp only [Int.natCast_add] at hs
  have hg1 : sgn1 l ≤ 1 := by unfold sgn1; split <;> omega
  generalize hDD : digitsOf l = D at *
  generalize hng : neg1 l = ng at *
  generalize sgn1 l = g at *
  generalize spanN isDg D = n at *
  generalize spanN isWd D = m at *
  clear hDD hng
  have hdI : (D.length : Int) + g = l.length := by omega
  have hnI : (n : Int) ≤ D.length := by omega
  have hmI : (m : Int) ≤ D.length := by omega
  have hgI : (g : Int) ≤ 1 := by omega
  by_cases h0 : n = 0
  · subst h0
    have HZ := hid (HA.out rfl)
    clear H2
    clear hn1 hn2 hg1 hdl hs
    go_enter Tryz.func154, Tryz.ntmps154
    go_wp2_with (first | (go_at_call 189; refine (HT.out _).mono ?_; rintro e w2 ⟨rfl, rfl⟩) | (go_at_call 112; refine (H1.out _).mono ?_; rintro e w2 ⟨rfl, rfl⟩))
    refine bodyPost_ret (v := .tuple #[TV 0 [] 0 0, .int .i64 0]) (by simp [results, Tryz.results154, go_sem]; rfl) rfl ⟨by rw [HZ.out]; rfl, by go_grown⟩
  · have hnb : ((n : Int) == 0) = false := by simp; omega
    have hn0 : ¬ (n : Int) = 0 := by omega
    by_cases hnm : n = m
    · subst hnm
      have hmm : ((n : Int) == (n : Int)) = true := by simp
      have h0D : 0 < D.length := by omega
      have hi0 := idx D 0 h0D
      have hh := head_idx h0D
      simp only [Int.natCast_zero] at hi0
      have HH := hid hh
      generalize hc : D[0] = c at *
      clear hh hc
      by_cases hc48 : c.toNat = 48
      · have hcI : (c.toNat : Int) = 48 := by omega
        have hc' : c = 48 := UInt8.toNat_inj.1 hc48
        by_cases h1 : 1 < n + g
        · have h1I : 1 < (n : Int) + g := by omega
          have HZ := hid (HC.out h0 rfl ⟨by rw [HH.out, hc'], h1⟩)
          have M1 : Hid True := hid trivial
          clear hn1 hn2 hg1 hdl hs h1 HC HB HA HDD
          have hwr : (l.length : Int) - D.length = g := by omega
          go_enter Tryz.func154, Tryz.ntmps154
          go_wp2_with (first | (go_at_call 189; refine (HT.out _).mono ?_; rintro e w2 ⟨rfl, rfl⟩) | (go_at_call 112; clear M1; refine (H1.out _).mono ?_; rintro e w2 ⟨rfl, rfl⟩) | (go_at_call 112; refine (H2.out _).mono ?_; rintro e w2 ⟨rfl, rfl⟩))
          refine bodyPost_ret (v := .tuple #[TV 0 [] 0 0, .int .i64 0]) (by simp [results, Tryz.results154, go_sem]; rfl) rfl ⟨by rw [HZ.out]; rfl, by go_grown⟩
        · have h1I : ¬ 1 < (n : Int) + g := by omega
          have HZ := hid (HDD.out h0 rfl (fun h => h1 h.2))
          have M1 : Hid True := hid trivial
          clear hn1 hn2 hg1 hdl HC HB HA HDD
          have hwr : (l.length : Int) - D.length = g := by omega
          have HP := hid (parse_any ng (D.take n) HDG.out (by intro e; have h9 : (D.take n).length = 0 := (by rw [e]; rfl); rw [List.length_take] at h9; omega) (by simp; omega))
          rw [← HTK.out] at HP
          go_enter Tryz.func154, Tryz.ntmps154
          go_wp2_with (first | (go_at_call 189; refine (HT.out _).mono ?_; rintro e w2 ⟨rfl, rfl⟩) | (go_at_call 112; clear M1; refine (H1.out _).mono ?_; rintro e w2 ⟨rfl, rfl⟩) | (go_at_call 112; refine (H2.out _).mono ?_; rintro e w2 ⟨rfl, rfl⟩) | (go_at_call 190; refine (HP.out _ (Gd.alloc hG _)).mono ?_; clear HP; unfold NumOk; rintro e w3 ⟨hr, hb⟩; have HKB := hid (box_keep hb); have hfz := HKB.out.1.frozen; have hcs := HKB.out.1.cells; obtain ⟨hc0, hc1, hc2, hc3⟩ := hcs; clear hb; rcases hr with ⟨v, hv, rfl⟩ | ⟨hv, N, x, rfl⟩))
          · have hE := HKB.out.1.set4 (.int .i64 2) (.string ⟨#[]⟩) (.int .i64 v) (.int .i64 0)
            obtain ⟨d0, d1, d2, d3⟩ := hE.cells
            have HBB := hid (below_set4 HKB.out.2 (Nat.le_refl _) (.int .i64 2) (.string ⟨#[]⟩) (.int .i64 v) (.int .i64 0))
            refine bodyPost_ret (v := .tuple #[TV 2 [] v 0, .int .i64 ((n : Int) + g)]) ?_ rfl ⟨?_, HBB.out⟩
            · clear hc0 hc1 hc2 hc3 hs hi0
              simp [results, Tryz.results154, go_sem, d0, d1, d2, d3]; rfl
            · rw [HZ.out, hv]; rfl
          · have hE := HKB.out.1.set4 (.int .i64 0) (.string ⟨#[]⟩) (.int .i64 0) (.int .i64 0)
            obtain ⟨d0, d1, d2, d3⟩ := hE.cells
            have HBB := hid (below_set4 HKB.out.2 (Nat.le_refl _) (.int .i64 0) (.string ⟨#[]⟩) (.int .i64 0) (.int .i64 0))
            refine bodyPost_ret (v := .tuple #[TV 0 [] 0 0, .int .i64 0]) ?_ rfl ⟨?_, HBB.out⟩
            · clear hc0 hc1 hc2 hc3 hs hi0
              simp [results, Tryz.results154, go_sem, d0, d1, d2, d3]; rfl
            · rw [HZ.out, hv]; rfl
      · have hcI : ¬ (c.toNat : Int) = 48 := by omega
        have HZ := hid (HDD.out h0 rfl (fun h => hc48 (by have := h.1; rw [HH.out] at this; injection this with this; rw [this]; rfl)))
        have M1 : Hid True := hid trivial
        clear hn1 hn2 hg1 hdl HC HB HA HDD
        have hwr : (l.length : Int) - D.length = g := by omega
        have HP := hid (parse_any ng (D.take n) HDG.out (by intro e; have h9 : (D.take n).length = 0 := (by rw [e]; rfl); rw [List.length_take] at h9; omega) (by simp; omega))
        rw [← HTK.out] at HP
        go_enter Tryz.func154, Tryz.ntmps154
        go_wp2_with (first | (go_at_call 189; refine (HT.out _).mono ?_; rintro e w2 ⟨rfl, rfl⟩) | (go_at_call 112; clear M1; refine (H1.out _).mono ?_; rintro e w2 ⟨rfl, rfl⟩) | (go_at_call 112; refine (H2.out _).mono ?_; rintro e w2 ⟨rfl, rfl⟩) | (go_at_call 190; refine (HP.out _ (Gd.alloc hG _)).mono ?_; clear HP; unfold NumOk; rintro e w3 ⟨hr, hb⟩; have HKB := hid (box_keep hb); have hfz := HKB.out.1.frozen; have hcs := HKB.out.1.cells; obtain ⟨hc0, hc1, hc2, hc3⟩ := hcs; clear hb; rcases hr with ⟨v, hv, rfl⟩ | ⟨hv, N, x, rfl⟩))
        · have hE := HKB.out.1.set4 (.int .i64 2) (.string ⟨#[]⟩) (.int .i64 v) (.int .i64 0)
          obtain ⟨d0, d1, d2, d3⟩ := hE.cells
          have HBB := hid (below_set4 HKB.out.2 (Nat.le_refl _) (.int .i64 2) (.string ⟨#[]⟩) (.int .i64 v) (.int .i64 0))
          refine bodyPost_ret (v := .tuple #[TV 2 [] v 0, .int .i64 ((n : Int) + g)]) ?_ rfl ⟨?_, HBB.out⟩
          · clear hc0 hc1 hc2 hc3 hs hi0
            simp [results, Tryz.results154, go_sem, d0, d1, d2, d3]; rfl
          · rw [HZ.out, hv]; rfl
        · have hE := HKB.out.1.set4 (.int .i64 0) (.string ⟨#[]⟩) (.int .i64 0) (.int .i64 0)
          obtain ⟨d0, d1, d2, d3⟩ := hE.cells
          have HBB := hid (below_set4 HKB.out.2 (Nat.le_refl _) (.int .i64 0) (.string ⟨#[]⟩) (.int .i64 0) (.int .i64 0))
          refine bodyPost_ret (v := .tuple #[TV 0 [] 0 0, .int .i64 0]) ?_ rfl ⟨?_, HBB.out⟩
          · clear hc0 hc1 hc2 hc3 hs hi0
            simp [results, Tryz.results154, go_sem, d0, d1, d2, d3]; rfl
          · rw [HZ.out, hv]; rfl
    · have hnmb : ¬ (n : Int) = (m : Int) := by omega
      have HZ := hid (HB.out hnm)
      have M1 : Hid True := hid trivial
      clear hn1 hn2 hg1 hdl hs
      go_enter Tryz.func154, Tryz.ntmps154
      go_wp2_with (first | (go_at_call 189; refine (HT.out _).mono ?_; rintro e w2 ⟨rfl, rfl⟩) | (go_at_call 112; clear M1; refine (H1.out _).mono ?_; rintro e w2 ⟨rfl, rfl⟩) | (go_at_call 112; refine (H2.out _).mono ?_; rintro e w2 ⟨rfl, rfl⟩))
      refine bodyPost_ret (v := .tuple #[TV 0 [] 0 0, .int .i64 0]) (by simp [results, Tryz.results154, go_sem]; rfl) rfl ⟨by rw [HZ.out]; rfl, by go_grown⟩
end Go.Proofs.YtmpjmimhoikknaaGreatDoor
namespace Go.Proofs.YtmpjmimhoikknaaGreatDoor
open Go.RowKit Go.Joins

def bytesV (l : List UInt8) : List Value := l.map fun b => .int .u8 (b.toNat : Int)

theorem Tryz.info5 : (Tryz.prog.info? 5).map (fun i => (i.zero, i.size, i.bytes)) = some (some (.int .u8 0), 1, 1) := by kernel_rfl
theorem alloc_cell (w : World) (x : Value) (t : TypeId) : (w.alloc (.cells #[x] t)).cell? ⟨w.heap.size, 0, none⟩ = some x := by simp [go_sem]
theorem app1 {ops : Array Oper} {rest : List Oper} {o : Oper} {a : Act} {Q : Exit → Act → World → Prop} {w : World} {B n : Nat} {xs : List Value} {v c : Value} {g : Nat}
    (hgd : o.guard = none) (s x : Operand) (ho : o.op = .call { callee := .builtin .append, args := #[s, x], argTypes := #[105, 105] })
    (hs : a.eval s = v) (hown : w.ownsRow B 5 1 v n xs) (hx : a.eval x = .slice (some ⟨g, 0, none⟩) 1 1) (hc : w.cell? ⟨g, 0, none⟩ = some c) (h1 : c.oneCell' = true) (hn : n ≤ 1000000) (hB : B ≤ w.heap.size)
    (h : ∀ v' w', w'.ownsRow B 5 1 v' (n + 1) (xs ++ [c]) → Below B w w' → wpList Tryz.prog ops Q rest (a.put o.dst v') w') : wpList Tryz.prog ops Q (o :: rest) a w := by
  obtain ⟨i0, hi, hz0, hz1, hz2⟩ := info_parts Tryz.info5
  refine wpList_append_own w hgd s x 105 ho B 5 i0 (.int .u8 0) 1 1 Tryz.underlying105 hi hz0 hz1 hz2 rfl (by decide) v n xs hs hown ⟨g, 0, none⟩ 1 1 [c] hx rfl ?_ ?_ ?_ ?_ hB ?_
  · intro j u hj
    match j, hj with
    | 0, hj => simp at hj; subst hj; simpa [Addr.add] using hc
  · intro u hu; simp at hu; subst hu; exact h1
  · unfold maxLen; omega
  · omega
  · intro v' w' h1 h2 _
    exact h v' w' h1 ((Below.refl B w).grown h2 hB (fun k e => (hown.lt k e).1))
theorem bytesV_snoc (l : List UInt8) (c : UInt8) : bytesV l ++ [.int .u8 (c.toNat : Int)] = bytesV (l ++ [c]) := by simp [bytesV]

theorem conv_own {w : World} {B n g cap : Nat} {l : List UInt8} (h : w.ownsRow B 5 1 (.slice (some ⟨g, 0, none⟩) n cap) n (bytesV l)) :
    (convert 105 9 (.slice (some ⟨g, 0, none⟩) n cap)).run Tryz.prog w = .ok (.string ⟨l.toArray⟩) w := by
  have hn : n = l.length := by have := h.1; simp [bytesV] at this; omega
  subst hn
  refine run_convert_bytes_back w 105 9 5 ⟨g, 0, none⟩ cap l Tryz.underlying105 Tryz.underlying5 Tryz.underlying9 ?_
  intro j hj
  have hx := h.cells (g := g) rfl j (.int .u8 (l[j].toNat : Int)) (by simp [bytesV, List.getElem?_eq_getElem hj])
  exact hx
theorem own_cast {w : World} {B n m : Nat} {v : Value} {xs ys : List Value} (h : w.ownsRow B 5 1 v n xs) (hn : n = m) (hx : xs = ys) : w.ownsRow B 5 1 v m ys := by subst hn; subst hx; exact h

end Go.Proofs.YtmpjmimhoikknaaGreatDoor
namespace Go.Proofs.YtmpjmimhoikknaaGreatDoor
open Go.RowKit Go.Joins

theorem tx_no1 (acc r : List UInt8) (k : Nat) {c : UInt8} (h : nSl c = false) : txtF acc true k (c :: r) = none := by simp [txtF, h]
theorem tx_no2 (acc r : List UInt8) (k : Nat) (sl : Bool) (c : UInt8) (h : 64 < acc.length) : txtF acc sl k (c :: r) = none := by simp [txtF, h]
theorem tx_end (acc r : List UInt8) (k : Nat) {c : UInt8} (h : ¬ 64 < acc.length) (hc : c.toNat = 34) : txtF acc false k (c :: r) = some (acc, k + 2) := by
  obtain rfl : c = 34 := UInt8.toNat_inj.1 hc
  simp [txtF, h]
theorem tx_sl (acc r : List UInt8) (k : Nat) {c : UInt8} (h : ¬ 64 < acc.length) (hc : c.toNat = 92) : txtF acc false k (c :: r) = txtF acc true (k + 1) r := by
  obtain rfl : c = 92 := UInt8.toNat_inj.1 hc
  simp [txtF, h]
theorem tx_app0 (acc r : List UInt8) (k : Nat) {c : UInt8} (h : ¬ 64 < acc.length) (h1 : ¬ c.toNat = 34) (h2 : ¬ c.toNat = 92) : txtF acc false k (c :: r) = txtF (acc ++ [c]) false (k + 1) r := by
  have h3 : ¬ c = 34 := fun e => h1 (by rw [e]; rfl)
  have h4 : ¬ c = 92 := fun e => h2 (by rw [e]; rfl)
  simp [txtF, h, h3, h4]
theorem tx_app1 (acc r : List UInt8) (k : Nat) {c : UInt8} (h : ¬ 64 < acc.length) (h1 : nSl c = true) : txtF acc true k (c :: r) = txtF (acc ++ [c]) false (k + 1) r := by
  simp [txtF, h, h1]
theorem tx_nil (acc : List UInt8) (k : Nat) (sl : Bool) : txtF acc sl k [] = none := rfl
theorem drop_at {l : List UInt8} {k : Nat} (h : k < l.length) : l.drop k = l[k] :: l.drop (k + 1) := by simp
theorem textS_no {l : List UInt8} (h : txtF [] false 0 l.tail = none) : textS l = none := by unfold textS; rw [h]
theorem textS_yes (l b : List UInt8) (n : Nat) (h : txtF [] false 0 l.tail = some (b, n)) : textS l = some (⟨3, b, 0, 0⟩, n) := by unfold textS; rw [h]
theorem conv_own' {w : World} {B n : Nat} {v : Value} {l : List UInt8} (h : w.ownsRow B 5 1 v n (bytesV l)) (hn : n = l.length) : (convert 105 9 v).run Tryz.prog w = .ok (.string (St l)) w := by
  rcases ownsRow_forms h with ⟨rfl, h0⟩ | ⟨g, cap, rfl⟩
  · obtain rfl : l = [] := List.eq_nil_of_length_eq_zero (by omega)
    have u41 := Tryz.underlying105
    have u9 := Tryz.underlying9
    have u5 := Tryz.underlying5
    simp [convert, run_underlying u41, run_underlying u9, run_underlying u5, Conv.bytesToString]; rfl
  · exact conv_own h
/-- The text's bytes so far. -/
def Tb (w wr : World) (v : Value) (acc : List UInt8) : Prop := wr.ownsRow (w.heap.size + 1) 5 1 v acc.length (bytesV acc) ∧ Bx wr w.heap.size (.int .i64 0) (.string ⟨#[]⟩) (.int .i64 0) (.int .i64 0) ∧ Below w.heap.size w wr ∧ w.heap.size + 1 ≤ wr.heap.size
theorem Tb.app {w wr w1 : World} {v v1 : Value} {acc : List UInt8} {c : UInt8} (h : Tb w wr v acc) (ho : w1.ownsRow (w.heap.size + 1) 5 1 v1 (acc.length + 1) (bytesV acc ++ [.int .u8 (c.toNat : Int)])) (hb : Below (w.heap.size + 1) (wr.alloc (.cells #[.int .u8 (c.toNat : Int)] 5)) w1) : Tb w w1 v1 (acc ++ [c]) := by
  obtain ⟨h1, h2, h3, h4⟩ := h
  refine ⟨own_cast ho (by simp) (by simp [bytesV]), ?_, (h3.alloc (by omega) _).trans (hb.mono (by omega)), by have := hb.size; simp at this; omega⟩
  have hlt := lt_of_block h2
  show w1.heap[w.heap.size]? = _
  rw [hb.block _ (by omega), Below.heap_alloc _ _ _ hlt]
  exact h2
set_option maxRecDepth 100000 in
set_option maxHeartbeats 1000000 in
theorem text_any (l : List UInt8) (hl : (l.length : Int) ≤ 140737488355328) (h1 : 1 ≤ l.length) (w : World) : Calls Tryz.prog 155 #[.string (St l)] w fun e w' => e = .returned (ansV (textS l)) ∧ Below w.heap.size w w' := by
  have hsz := St_size l
  have hs := slF l 1 h1
  have htl : l.drop 1 = l.tail := by simp
  have HNo := hid (@textS_no l)
  have HYes := hid (textS_yes l)
  have hle : l.tail.length + 1 = l.length := by simp; omega
  rw [htl] at hs
  generalize hm : l.tail = m at *
  clear hm htl
  simp only [show ((1 : Nat) : Int) = 1 from rfl] at hs
  have hsm := St_size m
  have hmI : (m.length : Int) ≤ 140737488355328 := by omega
  have h1I : (1 : Int) ≤ l.length := by omega
  clear hle
  go_enter Tryz.func155, Tryz.ntmps155
  go_wp2_with fail
  go_loopw [4, 5, 13] (fun v s i wr => ∃ (k : Nat) (acc : List UInt8) (sl : Bool), (k : Int) ≤ m.length ∧ i = .int .i64 k ∧ s = .bool sl ∧ Hid (acc.length ≤ 65) ∧ Hid (txtF [] false 0 m = txtF acc sl k (m.drop k)) ∧ Hid (Tb w wr v acc)) (fun _ _ i _ => m.length - (intOf i).toNat)
  case atStart => 
    exact ⟨0, [], false, by omega, rfl, rfl, by show 0 ≤ 65; omega, by show _ = _; simp, World.ownsRow_nil _ _ _ _, Bx.made _ _ _ _ _, (Below.refl _ w).alloc (Nat.le_refl _) _, by simp⟩
  case round =>
    obtain ⟨k, acc, sl, hk, rfl, rfl, HL, HT, HK⟩ := hrel
    by_cases hlt : k < m.length
    · have hi := idx m k hlt
      have hI : (k : Int) < m.length := by omega
      rw [drop_at hlt] at HT
      generalize m[k] = c at *
      have hfz := HK.out.2.1.frozen
      obtain ⟨hc0, hc1, hc2, hc3⟩ := HK.out.2.1.cells
      have hsz9 : w.heap.size + 1 ≤ wr.heap.size := HK.out.2.2.2
      obtain ⟨p, cap, rfl⟩ : ∃ p cap, u4 = Value.slice p acc.length cap := by
        rcases ownsRow_forms HK.out.1 with ⟨rfl, h0⟩ | ⟨g, cap, rfl⟩
        · exact ⟨none, 0, by rw [h0]⟩
        · exact ⟨_, _, rfl⟩
      cases sl with
      | true =>
        cases hn : nSl c with
        | false =>
          have HZ := hid (HNo.out (by rw [HT.out]; exact tx_no1 _ _ _ hn))
          clear HNo HYes HT
          go_wp2_with (first
                      | (go_at_call 174; refine (nSl_any _ _).mono ?_; rintro e w2 ⟨rfl, rfl⟩; rw [hn])
                      | (at_builtin; refine app1 rfl _ _ rfl rfl (HK.out.1.alloc _) rfl (alloc_cell _ _ _) rfl (by have := HL.out; omega) (by go_size) ?_; intro v1 w1 ho1 hb1; have HK1 := hid (HK.out.app ho1 hb1); clear ho1 hb1))
          have hE := HK.out.2.1.set4 (.int .i64 0) (.string ⟨#[]⟩) (.int .i64 0) (.int .i64 0)
          obtain ⟨d0, d1, d2, d3⟩ := hE.cells
          have HBB := hid (below_set4 HK.out.2.2.1 (Nat.le_refl _) (.int .i64 0) (.string ⟨#[]⟩) (.int .i64 0) (.int .i64 0))
          refine bodyPost_ret (v := .tuple #[TV 0 [] 0 0, .int .i64 0]) ?_ rfl ⟨?_, HBB.out⟩
          · clear hc0 hc1 hc2 hc3
            simp [results, Tryz.results155, go_sem, d0, d1, d2, d3]; rfl
          · rw [HZ.out]; rfl
        | true =>
          by_cases h64 : 64 < acc.length
          · have h64I : 64 < (acc.length : Int) := by omega
            have HZ := hid (HNo.out (by rw [HT.out]; exact tx_no2 _ _ _ _ _ h64))
            clear HNo HYes HT
            go_wp2_with (first
                        | (go_at_call 174; refine (nSl_any _ _).mono ?_; rintro e w2 ⟨rfl, rfl⟩; rw [hn])
                        | (at_builtin; refine app1 rfl _ _ rfl rfl (HK.out.1.alloc _) rfl (alloc_cell _ _ _) rfl (by have := HL.out; omega) (by go_size) ?_; intro v1 w1 ho1 hb1; have HK1 := hid (HK.out.app ho1 hb1); clear ho1 hb1))
            have hE := HK.out.2.1.set4 (.int .i64 0) (.string ⟨#[]⟩) (.int .i64 0) (.int .i64 0)
            obtain ⟨d0, d1, d2, d3⟩ := hE.cells
            have HBB := hid (below_set4 HK.out.2.2.1 (Nat.le_refl _) (.int .i64 0) (.string ⟨#[]⟩) (.int .i64 0) (.int .i64 0))
            refine bodyPost_ret (v := .tuple #[TV 0 [] 0 0, .int .i64 0]) ?_ rfl ⟨?_, HBB.out⟩
            · clear hc0 hc1 hc2 hc3
              simp [results, Tryz.results155, go_sem, d0, d1, d2, d3]; rfl
            · rw [HZ.out]; rfl
          · have h64I : ¬ 64 < (acc.length : Int) := by omega
            go_wp2_with (first
                        | (go_at_call 174; refine (nSl_any _ _).mono ?_; rintro e w2 ⟨rfl, rfl⟩; rw [hn])
                        | (at_builtin; refine app1 rfl _ _ rfl rfl (HK.out.1.alloc _) rfl (alloc_cell _ _ _) rfl (by have := HL.out; omega) (by go_size) ?_; intro v1 w1 ho1 hb1; have HK1 := hid (HK.out.app ho1 hb1); clear ho1 hb1))
            go_roundw
            case rel =>
              refine ⟨k + 1, acc ++ [c], false, by omega, by go_num, rfl, by show _ ≤ _; simp; have := h64; omega, ?_, HK1.out⟩
              show _ = _
              rw [HT.out]; exact tx_app1 _ _ _ h64 hn
            case measure => simp [intOf]; omega
      | false =>
        by_cases h64 : 64 < acc.length
        · have h64I : 64 < (acc.length : Int) := by omega
          have hn : nSl c = nSl c := rfl
          have HZ := hid (HNo.out (by rw [HT.out]; exact tx_no2 _ _ _ _ _ h64))
          clear HNo HYes HT
          go_wp2_with (first
                      | (go_at_call 174; refine (nSl_any _ _).mono ?_; rintro e w2 ⟨rfl, rfl⟩; rw [hn])
                      | (at_builtin; refine app1 rfl _ _ rfl rfl (HK.out.1.alloc _) rfl (alloc_cell _ _ _) rfl (by have := HL.out; omega) (by go_size) ?_; intro v1 w1 ho1 hb1; have HK1 := hid (HK.out.app ho1 hb1); clear ho1 hb1))
          have hE := HK.out.2.1.set4 (.int .i64 0) (.string ⟨#[]⟩) (.int .i64 0) (.int .i64 0)
          obtain ⟨d0, d1, d2, d3⟩ := hE.cells
          have HBB := hid (below_set4 HK.out.2.2.1 (Nat.le_refl _) (.int .i64 0) (.string ⟨#[]⟩) (.int .i64 0) (.int .i64 0))
          refine bodyPost_ret (v := .tuple #[TV 0 [] 0 0, .int .i64 0]) ?_ rfl ⟨?_, HBB.out⟩
          · clear hc0 hc1 hc2 hc3
            simp [results, Tryz.results155, go_sem, d0, d1, d2, d3]; rfl
          · rw [HZ.out]; rfl
        · have h64I : ¬ 64 < (acc.length : Int) := by omega
          have hn : nSl c = nSl c := rfl
          by_cases h34 : c.toNat = 34
          · have h34I : (c.toNat : Int) = 34 := by omega
            have HZ := hid (HYes.out acc (k + 2) (by rw [HT.out]; exact tx_end _ _ _ h64 h34))
            have hcv := conv_own' HK.out.1 rfl
            clear HNo HYes HT
            go_wp2_with fail
            have hE := HK.out.2.1.set4 (.int .i64 3) (.string (St acc)) (.int .i64 0) (.int .i64 0)
            obtain ⟨d0, d1, d2, d3⟩ := hE.cells
            have HBB := hid (below_set4 HK.out.2.2.1 (Nat.le_refl _) (.int .i64 3) (.string (St acc)) (.int .i64 0) (.int .i64 0))
            refine bodyPost_ret (v := .tuple #[TV 3 acc 0 0, .int .i64 ((k : Int) + 2)]) ?_ rfl ⟨?_, HBB.out⟩
            · clear hc0 hc1 hc2 hc3
              simp [results, Tryz.results155, go_sem, d0, d1, d2, d3]
            · rw [HZ.out]; rfl
          · have h34I : ¬ (c.toNat : Int) = 34 := by omega
            by_cases h92 : c.toNat = 92
            · have h92I : (c.toNat : Int) = 92 := by omega
              go_wp2_with fail
              go_roundw
              case rel =>
                refine ⟨k + 1, acc, true, by omega, by go_num, rfl, HL.out, ?_, HK.out⟩
                show _ = _
                rw [HT.out]; exact tx_sl _ _ _ h64 h92
              case measure => simp [intOf]; omega
            · have h92I : ¬ (c.toNat : Int) = 92 := by omega
              go_wp2_with (first
                          | (go_at_call 174; refine (nSl_any _ _).mono ?_; rintro e w2 ⟨rfl, rfl⟩; rw [hn])
                          | (at_builtin; refine app1 rfl _ _ rfl rfl (HK.out.1.alloc _) rfl (alloc_cell _ _ _) rfl (by have := HL.out; omega) (by go_size) ?_; intro v1 w1 ho1 hb1; have HK1 := hid (HK.out.app ho1 hb1); clear ho1 hb1))
              go_roundw
              case rel =>
                refine ⟨k + 1, acc ++ [c], false, by omega, by go_num, rfl, by show _ ≤ _; simp; have := h64; omega, ?_, HK1.out⟩
                show _ = _
                rw [HT.out]; exact tx_app0 _ _ _ h64 h34 h92
              case measure => simp [intOf]; omega
    · have HZ := hid (HNo.out (by rw [HT.out, List.drop_of_length_le (by omega)]; rfl))
      have hfz := HK.out.2.1.frozen
      obtain ⟨hc0, hc1, hc2, hc3⟩ := HK.out.2.1.cells
      clear HNo HYes HT
      go_wp2_with fail
      have hE := HK.out.2.1.set4 (.int .i64 0) (.string ⟨#[]⟩) (.int .i64 0) (.int .i64 0)
      obtain ⟨d0, d1, d2, d3⟩ := hE.cells
      have HBB := hid (below_set4 HK.out.2.2.1 (Nat.le_refl _) (.int .i64 0) (.string ⟨#[]⟩) (.int .i64 0) (.int .i64 0))
      refine bodyPost_ret (v := .tuple #[TV 0 [] 0 0, .int .i64 0]) ?_ rfl ⟨?_, HBB.out⟩
      · clear hc0 hc1 hc2 hc3
        simp [results, Tryz.results155, go_sem, d0, d1, d2, d3]; rfl
      · rw [HZ.out]; rfl
end Go.Proofs.YtmpjmimhoikknaaGreatDoor
namespace Go.Proofs.YtmpjmimhoikknaaGreatDoor
open Go.RowKit Go.Joins

theorem ansV_form (x : Option (Tk × Nat)) : ∃ (k : Int) (s : List UInt8) (n a m : Int), ansV x = .tuple #[TV k s n a, .int .i64 m] := by
  cases x with
  | none => exact ⟨_, _, _, _, _, rfl⟩
  | some y => obtain ⟨t, n⟩ := y; exact ⟨_, _, _, _, _, rfl⟩
theorem firstS_w {l : List UInt8} (h : 0 < l.length) (hc : isLe l[0] = true) : firstS l = wordS l := by
  cases l with
  | nil => simp at h
  | cons c r => have hc : isLe c = true := hc; simp [firstS, hc]
theorem firstS_n {l : List UInt8} (h : 0 < l.length) (hc : isLe l[0] = false) (h2 : l[0].toNat = 45 ∨ isDg l[0] = true) : firstS l = numS l := by
  cases l with
  | nil => simp at h
  | cons c r =>
    have hc : isLe c = false := hc
    have h2 : c.toNat = 45 ∨ isDg c = true := h2
    rcases h2 with h2 | h2
    · obtain rfl : c = 45 := UInt8.toNat_inj.1 h2
      simp [firstS, hc]
    · simp [firstS, hc, h2]
theorem firstS_t {l : List UInt8} (h : 0 < l.length) (hc : l[0].toNat = 34) : firstS l = textS l := by
  cases l with
  | nil => simp at h
  | cons c r =>
    obtain rfl : c = 34 := UInt8.toNat_inj.1 hc
    simp [firstS, isLe, isDg]
theorem firstS_s {l : List UInt8} (h : 0 < l.length) (hc : isLe l[0] = false) (h2 : ¬ l[0].toNat = 45) (h3 : isDg l[0] = false) (h4 : ¬ l[0].toNat = 34) : firstS l = signS l := by
  cases l with
  | nil => simp at h
  | cons c r =>
    have hc : isLe c = false := hc
    have h3 : isDg c = false := h3
    have h2 : ¬ c = 45 := fun e => h2 (by show c.toNat = 45; rw [e]; rfl)
    have h4 : ¬ c = 34 := fun e => h4 (by show c.toNat = 34; rw [e]; rfl)
    simp [firstS, hc, h3, h2, h4]
theorem isLe_45 (w : World) : Calls Tryz.prog 151 #[.int .u8 45] w fun e w' => e = .returned (.bool false) ∧ w' = w := isLe_any 45 w
theorem isLe_34 (w : World) : Calls Tryz.prog 151 #[.int .u8 34] w fun e w' => e = .returned (.bool false) ∧ w' = w := isLe_any 34 w
theorem isDg_34 (w : World) : Calls Tryz.prog 153 #[.int .u8 34] w fun e w' => e = .returned (.bool false) ∧ w' = w := isDg_any 34 w
set_option maxRecDepth 100000 in
set_option maxHeartbeats 1000000 in
theorem first_any (l : List UInt8) (hl : (l.length : Int) ≤ 140737488355328) (h1 : 0 < l.length) (w : World) (hG : Gd w) : Calls Tryz.prog 114 #[.string (St l)] w fun e w' => e = .returned (ansV (firstS l)) ∧ Below w.heap.size w w' := by
  have hsz := St_size l
  have hi := idx l 0 h1
  simp only [Int.natCast_zero] at hi
  have HW := hid (@firstS_w l h1)
  have HN := hid (@firstS_n l h1)
  have HTx := hid (@firstS_t l h1)
  have HSg := hid (@firstS_s l h1)
  have h1I : 0 < (l.length : Int) := by omega
  generalize l[0] = c at *
  cases hc : isLe c with
  | true =>
    have HZ := hid (HW.out hc)
    have hd : isDg c = isDg c := rfl
    obtain ⟨k, s, n, a, m, hf⟩ := ansV_form (wordS l)
    have HF := hid hf
    clear hf HW HN HTx HSg
    go_enter Tryz.func114, Tryz.ntmps114
    go_wp2_with (first
      | (go_at_call 151; refine (isLe_any _ _).mono ?_; rintro e w2 ⟨rfl, rfl⟩; rw [hc])
      | (go_at_call 153; refine (isDg_any _ _).mono ?_; rintro e w2 ⟨rfl, rfl⟩; rw [hd])
      | (go_at_call 152; refine (word_any _ (by omega) _).mono ?_; rintro e w3 ⟨rfl, hb⟩; rw [HF.out]; have HKB := hid (box_keep hb); have hfz := HKB.out.1.frozen; have hcs := HKB.out.1.cells; obtain ⟨hc0, hc1, hc2, hc3⟩ := hcs; clear hb))
    have hE := HKB.out.1.set4 (.int .i64 k) (.string (St s)) (.int .i64 n) (.int .i64 a)
    obtain ⟨d0, d1, d2, d3⟩ := hE.cells
    have HBB := hid (below_set4 HKB.out.2 (Nat.le_refl _) (.int .i64 k) (.string (St s)) (.int .i64 n) (.int .i64 a))
    refine bodyPost_ret (v := .tuple #[TV k s n a, .int .i64 m]) ?_ rfl ⟨?_, HBB.out⟩
    · clear hc0 hc1 hc2 hc3 hi
      simp [results, Tryz.results114, go_sem, d0, d1, d2, d3]
    · rw [HZ.out, HF.out]
  | false =>
    by_cases h45 : c.toNat = 45
    · have HZ := hid (HN.out hc (.inl h45))
      have hd : isDg c = isDg c := rfl
      have h45I : (c.toNat : Int) = 45 := by omega
      obtain ⟨k, s, n, a, m, hf⟩ := ansV_form (numS l)
      have HF := hid hf
      clear hf HW HN HTx HSg
      go_enter Tryz.func114, Tryz.ntmps114
      go_wp2_with (first
        | (go_at_call 151; refine (isLe_45 _).mono ?_; rintro e w2 ⟨rfl, rfl⟩)
        | (go_at_call 154; refine (num_any _ hl _ (Gd.alloc hG _)).mono ?_; rintro e w3 ⟨rfl, hb⟩; rw [HF.out]; have HKB := hid (box_keep hb); have hfz := HKB.out.1.frozen; have hcs := HKB.out.1.cells; obtain ⟨hc0, hc1, hc2, hc3⟩ := hcs; clear hb))
      have hE := HKB.out.1.set4 (.int .i64 k) (.string (St s)) (.int .i64 n) (.int .i64 a)
      obtain ⟨d0, d1, d2, d3⟩ := hE.cells
      have HBB := hid (below_set4 HKB.out.2 (Nat.le_refl _) (.int .i64 k) (.string (St s)) (.int .i64 n) (.int .i64 a))
      refine bodyPost_ret (v := .tuple #[TV k s n a, .int .i64 m]) ?_ rfl ⟨?_, HBB.out⟩
      · clear hc0 hc1 hc2 hc3 hi
        simp [results, Tryz.results114, go_sem, d0, d1, d2, d3]
      · rw [HZ.out, HF.out]
    · have h45I : ¬ (c.toNat : Int) = 45 := by omega
      cases hd : isDg c with
      | true =>
        have HZ := hid (HN.out hc (.inr hd))
        obtain ⟨k, s, n, a, m, hf⟩ := ansV_form (numS l)
        have HF := hid hf
        clear hf HW HN HTx HSg
        go_enter Tryz.func114, Tryz.ntmps114
        go_wp2_with (first
          | (go_at_call 151; refine (isLe_any _ _).mono ?_; rintro e w2 ⟨rfl, rfl⟩; rw [hc])
          | (go_at_call 153; refine (isDg_any _ _).mono ?_; rintro e w2 ⟨rfl, rfl⟩; rw [hd])
          | (go_at_call 154; refine (num_any _ hl _ (Gd.alloc hG _)).mono ?_; rintro e w3 ⟨rfl, hb⟩; rw [HF.out]; have HKB := hid (box_keep hb); have hfz := HKB.out.1.frozen; have hcs := HKB.out.1.cells; obtain ⟨hc0, hc1, hc2, hc3⟩ := hcs; clear hb))
        have hE := HKB.out.1.set4 (.int .i64 k) (.string (St s)) (.int .i64 n) (.int .i64 a)
        obtain ⟨d0, d1, d2, d3⟩ := hE.cells
        have HBB := hid (below_set4 HKB.out.2 (Nat.le_refl _) (.int .i64 k) (.string (St s)) (.int .i64 n) (.int .i64 a))
        refine bodyPost_ret (v := .tuple #[TV k s n a, .int .i64 m]) ?_ rfl ⟨?_, HBB.out⟩
        · clear hc0 hc1 hc2 hc3 hi
          simp [results, Tryz.results114, go_sem, d0, d1, d2, d3]
        · rw [HZ.out, HF.out]
      | false =>
        by_cases h34 : c.toNat = 34
        · have HZ := hid (HTx.out h34)
          have h34I : (c.toNat : Int) = 34 := by omega
          obtain ⟨k, s, n, a, m, hf⟩ := ansV_form (textS l)
          have HF := hid hf
          clear hf HW HN HTx HSg
          go_enter Tryz.func114, Tryz.ntmps114
          go_wp2_with (first
            | (go_at_call 151; refine (isLe_34 _).mono ?_; rintro e w2 ⟨rfl, rfl⟩)
            | (go_at_call 153; refine (isDg_34 _).mono ?_; rintro e w2 ⟨rfl, rfl⟩)
            | (go_at_call 155; refine (text_any _ hl h1 _).mono ?_; rintro e w3 ⟨rfl, hb⟩; rw [HF.out]; have HKB := hid (box_keep hb); have hfz := HKB.out.1.frozen; have hcs := HKB.out.1.cells; obtain ⟨hc0, hc1, hc2, hc3⟩ := hcs; clear hb))
          have hE := HKB.out.1.set4 (.int .i64 k) (.string (St s)) (.int .i64 n) (.int .i64 a)
          obtain ⟨d0, d1, d2, d3⟩ := hE.cells
          have HBB := hid (below_set4 HKB.out.2 (Nat.le_refl _) (.int .i64 k) (.string (St s)) (.int .i64 n) (.int .i64 a))
          refine bodyPost_ret (v := .tuple #[TV k s n a, .int .i64 m]) ?_ rfl ⟨?_, HBB.out⟩
          · clear hc0 hc1 hc2 hc3 hi
            simp [results, Tryz.results114, go_sem, d0, d1, d2, d3]
          · rw [HZ.out, HF.out]
        · have HZ := hid (HSg.out hc h45 hd h34)
          have h34I : ¬ (c.toNat : Int) = 34 := by omega
          obtain ⟨k, s, n, a, m, hf⟩ := ansV_form (signS l)
          have HF := hid hf
          clear hf HW HN HTx HSg
          go_enter Tryz.func114, Tryz.ntmps114
          go_wp2_with (first
            | (go_at_call 151; refine (isLe_any _ _).mono ?_; rintro e w2 ⟨rfl, rfl⟩; rw [hc])
            | (go_at_call 153; refine (isDg_any _ _).mono ?_; rintro e w2 ⟨rfl, rfl⟩; rw [hd])
            | (go_at_call 156; refine (sign_any _ _ (Sg.alloc hG.1 _)).mono ?_; rintro e w3 ⟨rfl, hb⟩; rw [HF.out]; have HKB := hid (box_keep hb); have hfz := HKB.out.1.frozen; have hcs := HKB.out.1.cells; obtain ⟨hc0, hc1, hc2, hc3⟩ := hcs; clear hb))
          have hE := HKB.out.1.set4 (.int .i64 k) (.string (St s)) (.int .i64 n) (.int .i64 a)
          obtain ⟨d0, d1, d2, d3⟩ := hE.cells
          have HBB := hid (below_set4 HKB.out.2 (Nat.le_refl _) (.int .i64 k) (.string (St s)) (.int .i64 n) (.int .i64 a))
          refine bodyPost_ret (v := .tuple #[TV k s n a, .int .i64 m]) ?_ rfl ⟨?_, HBB.out⟩
          · clear hc0 hc1 hc2 hc3 hi
            simp [results, Tryz.results114, go_sem, d0, d1, d2, d3]
          · rw [HZ.out, HF.out]
end Go.Proofs.YtmpjmimhoikknaaGreatDoor
