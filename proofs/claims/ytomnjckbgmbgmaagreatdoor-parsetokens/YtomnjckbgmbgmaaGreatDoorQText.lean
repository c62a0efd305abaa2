/-
  What text returns.
-/
import Derived.Test.YtomnjckbgmbgmaaGreatDoorQApp
namespace Go.Proofs.YtomnjckbgmbgmaaGreatDoor
open Go.RowKit Go.Joins

theorem tx_no1 (acc r : List UInt8) (k : Nat) {c : UInt8} (h : nSl c = false) : txtF acc true k (c :: r) = none := by simp [txtF, h]
theorem tx_no2 (acc r : List UInt8) (k : Nat) (sl : Bool) (c : UInt8) (h : 64 < acc.length) : txtF acc sl k (c :: r) = none := by simp [txtF, h]
theorem tx_end (acc r : List UInt8) (k : Nat) {c : UInt8} (h : ¬ 64 < acc.length) (hc : c.toNat = 34) : txtF acc false k (c :: r) = some (acc, k + 2) := by
  obtain rfl : c = 34 := UInt8.toNat_inj.1 hc
  simp [txtF, h]
theorem tx_sl (acc r : List UInt8) (k : Nat) {c : UInt8} (h : ¬ 64 < acc.length) (hc : c.toNat = 92) : txtF acc false k (c :: r) = txtF acc true (k + 1) r := by
  obtain rfl : c = 92 := UInt8.toNat_inj.1 hc
  simp [txtF, h]
theorem tx_app0 (acc r : List UInt8) (k : Nat) {c : UInt8} (h : ¬ 64 < acc.length) (h1 : ¬ c.toNat = 34) (h2 : ¬ c.toNat = 92) : txtF acc false k (c :: r) = txtF (acc ++ [c]) false (k + 1) r := by
  have h3 : ¬ c = 34 := fun e => h1 (by rw [e]; rfl)
  have h4 : ¬ c = 92 := fun e => h2 (by rw [e]; rfl)
  simp [txtF, h, h3, h4]
theorem tx_app1 (acc r : List UInt8) (k : Nat) {c : UInt8} (h : ¬ 64 < acc.length) (h1 : nSl c = true) : txtF acc true k (c :: r) = txtF (acc ++ [c]) false (k + 1) r := by
  simp [txtF, h, h1]
theorem tx_nil (acc : List UInt8) (k : Nat) (sl : Bool) : txtF acc sl k [] = none := rfl
theorem drop_at {l : List UInt8} {k : Nat} (h : k < l.length) : l.drop k = l[k] :: l.drop (k + 1) := by simp
theorem textS_no {l : List UInt8} (h : txtF [] false 0 l.tail = none) : textS l = none := by unfold textS; rw [h]
theorem textS_yes (l b : List UInt8) (n : Nat) (h : txtF [] false 0 l.tail = some (b, n)) : textS l = some (⟨3, b, 0, 0⟩, n) := by unfold textS; rw [h]
theorem conv_own' {w : World} {B n : Nat} {v : Value} {l : List UInt8} (h : w.ownsRow B 5 1 v n (bytesV l)) (hn : n = l.length) : (convert 99 9 v).run Tryz.prog w = .ok (.string (St l)) w := by
  rcases ownsRow_forms h with ⟨rfl, h0⟩ | ⟨g, cap, rfl⟩
  · obtain rfl : l = [] := List.eq_nil_of_length_eq_zero (by omega)
    have u41 := Tryz.underlying99
    have u9 := Tryz.underlying9
    have u5 := Tryz.underlying5
    simp [convert, run_underlying u41, run_underlying u9, run_underlying u5, Conv.bytesToString]; rfl
  · exact conv_own h
/-- The text's bytes so far. -/
def Tb (w wr : World) (v : Value) (acc : List UInt8) : Prop := wr.ownsRow (w.heap.size + 1) 5 1 v acc.length (bytesV acc) ∧ Bx wr w.heap.size (.int .i64 0) (.string ⟨#[]⟩) (.int .i64 0) (.int .i64 0) ∧ Below w.heap.size w wr ∧ w.heap.size + 1 ≤ wr.heap.size
theorem Tb.app {w wr w1 : World} {v v1 : Value} {acc : List UInt8} {c : UInt8} (h : Tb w wr v acc) (ho : w1.ownsRow (w.heap.size + 1) 5 1 v1 (acc.length + 1) (bytesV acc ++ [.int .u8 (c.toNat : Int)])) (hb : Below (w.heap.size + 1) (wr.alloc (.cells #[.int .u8 (c.toNat : Int)] 5)) w1) : Tb w w1 v1 (acc ++ [c]) := by
  obtain ⟨h1, h2, h3, h4⟩ := h
  refine ⟨own_cast ho (by simp) (by simp [bytesV]), ?_, (h3.alloc (by omega) _).trans (hb.mono (by omega)), by have := hb.size; simp at this; omega⟩
  have hlt := lt_of_block h2
  show w1.heap[w.heap.size]? = _
  rw [hb.block _ (by omega), Below.heap_alloc _ _ _ hlt]
  exact h2
set_option maxRecDepth 100000 in
set_option maxHeartbeats 1000000 in
theorem text_any (l : List UInt8) (hl : (l.length : Int) ≤ 140737488355328) (h1 : 1 ≤ l.length) (w : World) : Calls Tryz.prog 103 #[.string (St l)] w fun e w' => e = .returned (ansV (textS l)) ∧ Below w.heap.size w w' := by
  have hsz := St_size l
  have hs := slF l 1 h1
  have htl : l.drop 1 = l.tail := by simp
  have HNo := hid (@textS_no l)
  have HYes := hid (textS_yes l)
  have hle : l.tail.length + 1 = l.length := by simp; omega
  rw [htl] at hs
  generalize hm : l.tail = m at *
  clear hm htl
  simp only [show ((1 : Nat) : Int) = 1 from rfl] at hs
  have hsm := St_size m
  have hmI : (m.length : Int) ≤ 140737488355328 := by omega
  have h1I : (1 : Int) ≤ l.length := by omega
  clear hle
  go_enter Tryz.func103, Tryz.ntmps103
  go_wp2_with fail
  go_loopw [4, 5, 13] (fun v s i wr => ∃ (k : Nat) (acc : List UInt8) (sl : Bool), (k : Int) ≤ m.length ∧ i = .int .i64 k ∧ s = .bool sl ∧ Hid (acc.length ≤ 65) ∧ Hid (txtF [] false 0 m = txtF acc sl k (m.drop k)) ∧ Hid (Tb w wr v acc)) (fun _ _ i _ => m.length - (intOf i).toNat)
  case atStart => 
    exact ⟨0, [], false, by omega, rfl, rfl, by show 0 ≤ 65; omega, by show _ = _; simp, World.ownsRow_nil _ _ _ _, Bx.made _ _ _ _ _, (Below.refl _ w).alloc (Nat.le_refl _) _, by simp⟩
  case round =>
    obtain ⟨k, acc, sl, hk, rfl, rfl, HL, HT, HK⟩ := hrel
    by_cases hlt : k < m.length
    · have hi := idx m k hlt
      have hI : (k : Int) < m.length := by omega
      rw [drop_at hlt] at HT
      generalize m[k] = c at *
      have hfz := HK.out.2.1.frozen
      obtain ⟨hc0, hc1, hc2, hc3⟩ := HK.out.2.1.cells
      have hsz9 : w.heap.size + 1 ≤ wr.heap.size := HK.out.2.2.2
      obtain ⟨p, cap, rfl⟩ : ∃ p cap, u4 = Value.slice p acc.length cap := by
        rcases ownsRow_forms HK.out.1 with ⟨rfl, h0⟩ | ⟨g, cap, rfl⟩
        · exact ⟨none, 0, by rw [h0]⟩
        · exact ⟨_, _, rfl⟩
      cases sl with
      | true =>
        cases hn : nSl c with
        | false =>
          have HZ := hid (HNo.out (by rw [HT.out]; exact tx_no1 _ _ _ hn))
          clear HNo HYes HT
          go_wp2_with (first
                      | (go_at_call 127; refine (nSl_any _ _).mono ?_; rintro e w2 ⟨rfl, rfl⟩; rw [hn])
                      | (at_builtin; refine app1 rfl _ _ rfl rfl (HK.out.1.alloc _) rfl (alloc_cell _ _ _) rfl (by have := HL.out; omega) (by go_size) ?_; intro v1 w1 ho1 hb1; have HK1 := hid (HK.out.app ho1 hb1); clear ho1 hb1))
          have hE := HK.out.2.1.set4 (.int .i64 0) (.string ⟨#[]⟩) (.int .i64 0) (.int .i64 0)
          obtain ⟨d0, d1, d2, d3⟩ := hE.cells
          have HBB := hid (below_set4 HK.out.2.2.1 (Nat.le_refl _) (.int .i64 0) (.string ⟨#[]⟩) (.int .i64 0) (.int .i64 0))
          refine bodyPost_ret (v := .tuple #[TV 0 [] 0 0, .int .i64 0]) ?_ rfl ⟨?_, HBB.out⟩
          · clear hc0 hc1 hc2 hc3
            simp [results, Tryz.results103, go_sem, d0, d1, d2, d3]; rfl
          · rw [HZ.out]; rfl
        | true =>
          by_cases h64 : 64 < acc.length
          · have h64I : 64 < (acc.length : Int) := by omega
            have HZ := hid (HNo.out (by rw [HT.out]; exact tx_no2 _ _ _ _ _ h64))
            clear HNo HYes HT
            go_wp2_with (first
                        | (go_at_call 127; refine (nSl_any _ _).mono ?_; rintro e w2 ⟨rfl, rfl⟩; rw [hn])
                        | (at_builtin; refine app1 rfl _ _ rfl rfl (HK.out.1.alloc _) rfl (alloc_cell _ _ _) rfl (by have := HL.out; omega) (by go_size) ?_; intro v1 w1 ho1 hb1; have HK1 := hid (HK.out.app ho1 hb1); clear ho1 hb1))
            have hE := HK.out.2.1.set4 (.int .i64 0) (.string ⟨#[]⟩) (.int .i64 0) (.int .i64 0)
            obtain ⟨d0, d1, d2, d3⟩ := hE.cells
            have HBB := hid (below_set4 HK.out.2.2.1 (Nat.le_refl _) (.int .i64 0) (.string ⟨#[]⟩) (.int .i64 0) (.int .i64 0))
            refine bodyPost_ret (v := .tuple #[TV 0 [] 0 0, .int .i64 0]) ?_ rfl ⟨?_, HBB.out⟩
            · clear hc0 hc1 hc2 hc3
              simp [results, Tryz.results103, go_sem, d0, d1, d2, d3]; rfl
            · rw [HZ.out]; rfl
          · have h64I : ¬ 64 < (acc.length : Int) := by omega
            go_wp2_with (first
                        | (go_at_call 127; refine (nSl_any _ _).mono ?_; rintro e w2 ⟨rfl, rfl⟩; rw [hn])
                        | (at_builtin; refine app1 rfl _ _ rfl rfl (HK.out.1.alloc _) rfl (alloc_cell _ _ _) rfl (by have := HL.out; omega) (by go_size) ?_; intro v1 w1 ho1 hb1; have HK1 := hid (HK.out.app ho1 hb1); clear ho1 hb1))
            go_roundw
            case rel =>
              refine ⟨k + 1, acc ++ [c], false, by omega, by go_num, rfl, by show _ ≤ _; simp; have := h64; omega, ?_, HK1.out⟩
              show _ = _
              rw [HT.out]; exact tx_app1 _ _ _ h64 hn
            case measure => simp [intOf]; omega
      | false =>
        by_cases h64 : 64 < acc.length
        · have h64I : 64 < (acc.length : Int) := by omega
          have hn : nSl c = nSl c := rfl
          have HZ := hid (HNo.out (by rw [HT.out]; exact tx_no2 _ _ _ _ _ h64))
          clear HNo HYes HT
          go_wp2_with (first
                      | (go_at_call 127; refine (nSl_any _ _).mono ?_; rintro e w2 ⟨rfl, rfl⟩; rw [hn])
                      | (at_builtin; refine app1 rfl _ _ rfl rfl (HK.out.1.alloc _) rfl (alloc_cell _ _ _) rfl (by have := HL.out; omega) (by go_size) ?_; intro v1 w1 ho1 hb1; have HK1 := hid (HK.out.app ho1 hb1); clear ho1 hb1))
          have hE := HK.out.2.1.set4 (.int .i64 0) (.string ⟨#[]⟩) (.int .i64 0) (.int .i64 0)
          obtain ⟨d0, d1, d2, d3⟩ := hE.cells
          have HBB := hid (below_set4 HK.out.2.2.1 (Nat.le_refl _) (.int .i64 0) (.string ⟨#[]⟩) (.int .i64 0) (.int .i64 0))
          refine bodyPost_ret (v := .tuple #[TV 0 [] 0 0, .int .i64 0]) ?_ rfl ⟨?_, HBB.out⟩
          · clear hc0 hc1 hc2 hc3
            simp [results, Tryz.results103, go_sem, d0, d1, d2, d3]; rfl
          · rw [HZ.out]; rfl
        · have h64I : ¬ 64 < (acc.length : Int) := by omega
          have hn : nSl c = nSl c := rfl
          by_cases h34 : c.toNat = 34
          · have h34I : (c.toNat : Int) = 34 := by omega
            have HZ := hid (HYes.out acc (k + 2) (by rw [HT.out]; exact tx_end _ _ _ h64 h34))
            have hcv := conv_own' HK.out.1 rfl
            clear HNo HYes HT
            go_wp2_with fail
            have hE := HK.out.2.1.set4 (.int .i64 3) (.string (St acc)) (.int .i64 0) (.int .i64 0)
            obtain ⟨d0, d1, d2, d3⟩ := hE.cells
            have HBB := hid (below_set4 HK.out.2.2.1 (Nat.le_refl _) (.int .i64 3) (.string (St acc)) (.int .i64 0) (.int .i64 0))
            refine bodyPost_ret (v := .tuple #[TV 3 acc 0 0, .int .i64 ((k : Int) + 2)]) ?_ rfl ⟨?_, HBB.out⟩
            · clear hc0 hc1 hc2 hc3
              simp [results, Tryz.results103, go_sem, d0, d1, d2, d3]
            · rw [HZ.out]; rfl
          · have h34I : ¬ (c.toNat : Int) = 34 := by omega
            by_cases h92 : c.toNat = 92
            · have h92I : (c.toNat : Int) = 92 := by omega
              go_wp2_with fail
              go_roundw
              case rel =>
                refine ⟨k + 1, acc, true, by omega, by go_num, rfl, HL.out, ?_, HK.out⟩
                show _ = _
                rw [HT.out]; exact tx_sl _ _ _ h64 h92
              case measure => simp [intOf]; omega
            · have h92I : ¬ (c.toNat : Int) = 92 := by omega
              go_wp2_with (first
                          | (go_at_call 127; refine (nSl_any _ _).mono ?_; rintro e w2 ⟨rfl, rfl⟩; rw [hn])
                          | (at_builtin; refine app1 rfl _ _ rfl rfl (HK.out.1.alloc _) rfl (alloc_cell _ _ _) rfl (by have := HL.out; omega) (by go_size) ?_; intro v1 w1 ho1 hb1; have HK1 := hid (HK.out.app ho1 hb1); clear ho1 hb1))
              go_roundw
              case rel =>
                refine ⟨k + 1, acc ++ [c], false, by omega, by go_num, rfl, by show _ ≤ _; simp; have := h64; omega, ?_, HK1.out⟩
                show _ = _
                rw [HT.out]; exact tx_app0 _ _ _ h64 h34 h92
              case measure => simp [intOf]; omega
    · have HZ := hid (HNo.out (by rw [HT.out, List.drop_of_length_le (by omega)]; rfl))
      have hfz := HK.out.2.1.frozen
      obtain ⟨hc0, hc1, hc2, hc3⟩ := HK.out.2.1.cells
      clear HNo HYes HT
      go_wp2_with fail
      have hE := HK.out.2.1.set4 (.int .i64 0) (.string ⟨#[]⟩) (.int .i64 0) (.int .i64 0)
      obtain ⟨d0, d1, d2, d3⟩ := hE.cells
      have HBB := hid (below_set4 HK.out.2.2.1 (Nat.le_refl _) (.int .i64 0) (.string ⟨#[]⟩) (.int .i64 0) (.int .i64 0))
      refine bodyPost_ret (v := .tuple #[TV 0 [] 0 0, .int .i64 0]) ?_ rfl ⟨?_, HBB.out⟩
      · clear hc0 hc1 hc2 hc3
        simp [results, Tryz.results103, go_sem, d0, d1, d2, d3]; rfl
      · rw [HZ.out]; rfl
end Go.Proofs.YtomnjckbgmbgmaaGreatDoor
