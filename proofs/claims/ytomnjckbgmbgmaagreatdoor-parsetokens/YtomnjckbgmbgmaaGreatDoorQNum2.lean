/-
  What number returns.
-/
import Derived.Test.YtomnjckbgmbgmaaGreatDoorQNum
namespace Go.Proofs.YtomnjckbgmbgmaaGreatDoor
open Go.RowKit

theorem trim_dig (l : List UInt8) : trimL [45] l = digitsOf l := by
  unfold trimL digitsOf neg1
  cases l with
  | nil => rfl
  | cons c r =>
    by_cases h : c = 45
    · subst h; rfl
    · have h1 : ([45] : List UInt8).isPrefixOf (c :: r) = false := by simp [List.isPrefixOf]; exact fun e => h e.symm
      have h2 : ((c :: r).head? == some 45) = false := by simp [h]
      rw [h1, h2]; rfl
theorem sgn_digits (l : List UInt8) : sgnL (neg1 l) ++ digitsOf l = l := by
  unfold digitsOf sgnL
  by_cases h : neg1 l = true
  · rw [if_pos h, if_pos h]
    cases l with
    | nil => simp [neg1] at h
    | cons c r => simp [neg1] at h; subst h; rfl
  · rw [if_neg h, if_neg h]; rfl
theorem sgnL_len (l : List UInt8) : (sgnL (neg1 l)).length = sgn1 l := by
  unfold sgnL sgn1; split <;> rfl
theorem take_digits (l : List UInt8) (n : Nat) : l.take (n + sgn1 l) = sgnL (neg1 l) ++ (digitsOf l).take n := by
  have h := sgn_digits l
  have h2 := sgnL_len l
  generalize neg1 l = ng at *
  generalize digitsOf l = D at *
  generalize sgn1 l = g at *
  subst h
  rw [List.take_append, h2, List.take_of_length_le (by omega), show n + g - g = n by omega]
theorem numS_a {l : List UInt8} (h : spanN isDg (digitsOf l) = 0) : numS l = none := by unfold numS; rw [if_pos (.inl h)]
theorem numS_b {l : List UInt8} (h : spanN isDg (digitsOf l) ≠ spanN isWd (digitsOf l)) : numS l = none := by unfold numS; rw [if_pos (.inr h)]
theorem numS_c {l : List UInt8} (h : ¬ spanN isDg (digitsOf l) = 0) (h1 : spanN isDg (digitsOf l) = spanN isWd (digitsOf l)) (h2 : (digitsOf l).head? = some 48 ∧ 1 < spanN isDg (digitsOf l) + sgn1 l) : numS l = none := by
  unfold numS; rw [if_neg (fun h3 => h3.elim h (fun h4 => h4 h1)), if_pos h2]
theorem numS_d {l : List UInt8} (h : ¬ spanN isDg (digitsOf l) = 0) (h1 : spanN isDg (digitsOf l) = spanN isWd (digitsOf l)) (h2 : ¬ ((digitsOf l).head? = some 48 ∧ 1 < spanN isDg (digitsOf l) + sgn1 l)) :
    numS l = (numV (neg1 l) (dval ((digitsOf l).take (spanN isDg (digitsOf l))))).map (fun v => (⟨2, [], v, 0⟩, spanN isDg (digitsOf l) + sgn1 l)) := by
  unfold numS; rw [if_neg (fun h3 => h3.elim h (fun h4 => h4 h1)), if_neg h2]
theorem head_idx {D : List UInt8} (h : 0 < D.length) : D.head? = some (D[0]) := by
  cases D with
  | nil => simp at h
  | cons c r => rfl
abbrev boxW (w : World) : World := w.alloc (.cells z31 33)
set_option maxRecDepth 100000 in
set_option maxHeartbeats 1000000 in
theorem num_any (l : List UInt8) (hl : (l.length : Int) ≤ 140737488355328) (w : World) (hG : Gd w) : Calls Tryz.prog 102 #[.string (St l)] w fun e w' => e = .returned (ansV (numS l)) ∧ Below w.heap.size w w' := by
  have hsz := St_size l
  have HT := hid (trim_any l [45])
  rw [trim_dig] at HT
  have hdl := digitsOf_len l
  have hD := St_size (digitsOf l)
  have H1 := hid (span23 (digitsOf l) (by omega))
  have H2 := hid (span33 (digitsOf l) (by omega))
  have HA := hid (@numS_a l)
  have HB := hid (@numS_b l)
  have HC := hid (@numS_c l)
  have HDD := hid (@numS_d l)
  have hn1 := spanN_le isDg (digitsOf l)
  have hn2 := spanN_le isWd (digitsOf l)
  have HTK := hid (take_digits l (spanN isDg (digitsOf l)))
  have HDG := hid (spanN_take isDg (digitsOf l))
  have hs := slT l (spanN isDg (digitsOf l) + sgn1 l) (by omega)
  simp only [Int.natCast_add] at hs
  have hg1 : sgn1 l ≤ 1 := by unfold sgn1; split <;> omega
  generalize hDD : digitsOf l = D at *
  generalize hng : neg1 l = ng at *
  generalize sgn1 l = g at *
  generalize spanN isDg D = n at *
  generalize spanN isWd D = m at *
  clear hDD hng
  have hdI : (D.length : Int) + g = l.length := by omega
  have hnI : (n : Int) ≤ D.length := by omega
  have hmI : (m : Int) ≤ D.length := by omega
  have hgI : (g : Int) ≤ 1 := by omega
  by_cases h0 : n = 0
  · subst h0
    have HZ := hid (HA.out rfl)
    clear H2
    clear hn1 hn2 hg1 hdl hs
    go_enter Tryz.func102, Tryz.ntmps102
    go_wp2_with (first | (go_at_call 125; refine (HT.out _).mono ?_; rintro e w2 ⟨rfl, rfl⟩) | (go_at_call 63; refine (H1.out _).mono ?_; rintro e w2 ⟨rfl, rfl⟩))
    refine bodyPost_ret (v := .tuple #[TV 0 [] 0 0, .int .i64 0]) (by simp [results, Tryz.results102, go_sem]; rfl) rfl ⟨by rw [HZ.out]; rfl, by go_grown⟩
  · have hnb : ((n : Int) == 0) = false := by simp; omega
    have hn0 : ¬ (n : Int) = 0 := by omega
    by_cases hnm : n = m
    · subst hnm
      have hmm : ((n : Int) == (n : Int)) = true := by simp
      have h0D : 0 < D.length := by omega
      have hi0 := idx D 0 h0D
      have hh := head_idx h0D
      simp only [Int.natCast_zero] at hi0
      have HH := hid hh
      generalize hc : D[0] = c at *
      clear hh hc
      by_cases hc48 : c.toNat = 48
      · have hcI : (c.toNat : Int) = 48 := by omega
        have hc' : c = 48 := UInt8.toNat_inj.1 hc48
        by_cases h1 : 1 < n + g
        · have h1I : 1 < (n : Int) + g := by omega
          have HZ := hid (HC.out h0 rfl ⟨by rw [HH.out, hc'], h1⟩)
          have M1 : Hid True := hid trivial
          clear hn1 hn2 hg1 hdl hs h1 HC HB HA HDD
          have hwr : (l.length : Int) - D.length = g := by omega
          go_enter Tryz.func102, Tryz.ntmps102
          go_wp2_with (first | (go_at_call 125; refine (HT.out _).mono ?_; rintro e w2 ⟨rfl, rfl⟩) | (go_at_call 63; clear M1; refine (H1.out _).mono ?_; rintro e w2 ⟨rfl, rfl⟩) | (go_at_call 63; refine (H2.out _).mono ?_; rintro e w2 ⟨rfl, rfl⟩))
          refine bodyPost_ret (v := .tuple #[TV 0 [] 0 0, .int .i64 0]) (by simp [results, Tryz.results102, go_sem]; rfl) rfl ⟨by rw [HZ.out]; rfl, by go_grown⟩
        · have h1I : ¬ 1 < (n : Int) + g := by omega
          have HZ := hid (HDD.out h0 rfl (fun h => h1 h.2))
          have M1 : Hid True := hid trivial
          clear hn1 hn2 hg1 hdl HC HB HA HDD
          have hwr : (l.length : Int) - D.length = g := by omega
          have HP := hid (parse_any ng (D.take n) HDG.out (by intro e; have h9 : (D.take n).length = 0 := (by rw [e]; rfl); rw [List.length_take] at h9; omega) (by simp; omega))
          rw [← HTK.out] at HP
          go_enter Tryz.func102, Tryz.ntmps102
          go_wp2_with (first | (go_at_call 125; refine (HT.out _).mono ?_; rintro e w2 ⟨rfl, rfl⟩) | (go_at_call 63; clear M1; refine (H1.out _).mono ?_; rintro e w2 ⟨rfl, rfl⟩) | (go_at_call 63; refine (H2.out _).mono ?_; rintro e w2 ⟨rfl, rfl⟩) | (go_at_call 126; refine (HP.out _ (Gd.alloc hG _)).mono ?_; clear HP; unfold NumOk; rintro e w3 ⟨hr, hb⟩; have HKB := hid (box_keep hb); have hfz := HKB.out.1.frozen; have hcs := HKB.out.1.cells; obtain ⟨hc0, hc1, hc2, hc3⟩ := hcs; clear hb; rcases hr with ⟨v, hv, rfl⟩ | ⟨hv, N, x, rfl⟩))
          · have hE := HKB.out.1.set4 (.int .i64 2) (.string ⟨#[]⟩) (.int .i64 v) (.int .i64 0)
            obtain ⟨d0, d1, d2, d3⟩ := hE.cells
            have HBB := hid (below_set4 HKB.out.2 (Nat.le_refl _) (.int .i64 2) (.string ⟨#[]⟩) (.int .i64 v) (.int .i64 0))
            refine bodyPost_ret (v := .tuple #[TV 2 [] v 0, .int .i64 ((n : Int) + g)]) ?_ rfl ⟨?_, HBB.out⟩
            · clear hc0 hc1 hc2 hc3 hs hi0
              simp [results, Tryz.results102, go_sem, d0, d1, d2, d3]; rfl
            · rw [HZ.out, hv]; rfl
          · have hE := HKB.out.1.set4 (.int .i64 0) (.string ⟨#[]⟩) (.int .i64 0) (.int .i64 0)
            obtain ⟨d0, d1, d2, d3⟩ := hE.cells
            have HBB := hid (below_set4 HKB.out.2 (Nat.le_refl _) (.int .i64 0) (.string ⟨#[]⟩) (.int .i64 0) (.int .i64 0))
            refine bodyPost_ret (v := .tuple #[TV 0 [] 0 0, .int .i64 0]) ?_ rfl ⟨?_, HBB.out⟩
            · clear hc0 hc1 hc2 hc3 hs hi0
              simp [results, Tryz.results102, go_sem, d0, d1, d2, d3]; rfl
            · rw [HZ.out, hv]; rfl
      · have hcI : ¬ (c.toNat : Int) = 48 := by omega
        have HZ := hid (HDD.out h0 rfl (fun h => hc48 (by have := h.1; rw [HH.out] at this; injection this with this; rw [this]; rfl)))
        have M1 : Hid True := hid trivial
        clear hn1 hn2 hg1 hdl HC HB HA HDD
        have hwr : (l.length : Int) - D.length = g := by omega
        have HP := hid (parse_any ng (D.take n) HDG.out (by intro e; have h9 : (D.take n).length = 0 := (by rw [e]; rfl); rw [List.length_take] at h9; omega) (by simp; omega))
        rw [← HTK.out] at HP
        go_enter Tryz.func102, Tryz.ntmps102
        go_wp2_with (first | (go_at_call 125; refine (HT.out _).mono ?_; rintro e w2 ⟨rfl, rfl⟩) | (go_at_call 63; clear M1; refine (H1.out _).mono ?_; rintro e w2 ⟨rfl, rfl⟩) | (go_at_call 63; refine (H2.out _).mono ?_; rintro e w2 ⟨rfl, rfl⟩) | (go_at_call 126; refine (HP.out _ (Gd.alloc hG _)).mono ?_; clear HP; unfold NumOk; rintro e w3 ⟨hr, hb⟩; have HKB := hid (box_keep hb); have hfz := HKB.out.1.frozen; have hcs := HKB.out.1.cells; obtain ⟨hc0, hc1, hc2, hc3⟩ := hcs; clear hb; rcases hr with ⟨v, hv, rfl⟩ | ⟨hv, N, x, rfl⟩))
        · have hE := HKB.out.1.set4 (.int .i64 2) (.string ⟨#[]⟩) (.int .i64 v) (.int .i64 0)
          obtain ⟨d0, d1, d2, d3⟩ := hE.cells
          have HBB := hid (below_set4 HKB.out.2 (Nat.le_refl _) (.int .i64 2) (.string ⟨#[]⟩) (.int .i64 v) (.int .i64 0))
          refine bodyPost_ret (v := .tuple #[TV 2 [] v 0, .int .i64 ((n : Int) + g)]) ?_ rfl ⟨?_, HBB.out⟩
          · clear hc0 hc1 hc2 hc3 hs hi0
            simp [results, Tryz.results102, go_sem, d0, d1, d2, d3]; rfl
          · rw [HZ.out, hv]; rfl
        · have hE := HKB.out.1.set4 (.int .i64 0) (.string ⟨#[]⟩) (.int .i64 0) (.int .i64 0)
          obtain ⟨d0, d1, d2, d3⟩ := hE.cells
          have HBB := hid (below_set4 HKB.out.2 (Nat.le_refl _) (.int .i64 0) (.string ⟨#[]⟩) (.int .i64 0) (.int .i64 0))
          refine bodyPost_ret (v := .tuple #[TV 0 [] 0 0, .int .i64 0]) ?_ rfl ⟨?_, HBB.out⟩
          · clear hc0 hc1 hc2 hc3 hs hi0
            simp [results, Tryz.results102, go_sem, d0, d1, d2, d3]; rfl
          · rw [HZ.out, hv]; rfl
    · have hnmb : ¬ (n : Int) = (m : Int) := by omega
      have HZ := hid (HB.out hnm)
      have M1 : Hid True := hid trivial
      clear hn1 hn2 hg1 hdl hs
      go_enter Tryz.func102, Tryz.ntmps102
      go_wp2_with (first | (go_at_call 125; refine (HT.out _).mono ?_; rintro e w2 ⟨rfl, rfl⟩) | (go_at_call 63; clear M1; refine (H1.out _).mono ?_; rintro e w2 ⟨rfl, rfl⟩) | (go_at_call 63; refine (H2.out _).mono ?_; rintro e w2 ⟨rfl, rfl⟩))
      refine bodyPost_ret (v := .tuple #[TV 0 [] 0 0, .int .i64 0]) (by simp [results, Tryz.results102, go_sem]; rfl) rfl ⟨by rw [HZ.out]; rfl, by go_grown⟩
end Go.Proofs.YtomnjckbgmbgmaaGreatDoor
