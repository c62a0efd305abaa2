/-
  What the reference's One returns, for every schema.
-/
import Derived.Test.YtjfholofgohcjaaPV
namespace Go.Proofs.Ytjfholofgohcjaa
open Go.RowKit Go.Sort Go.Shelf

theorem sl_get {α : Type} {Q : Nat → Prop} {enc : α → List Value} {k : Nat} {w : World} {p : Option Addr} {n cap : Nat} {xs : List α} (h : SlAt Q enc k w (.slice p n cap) xs) (hne : xs ≠ []) : ∃ b o, p = some ⟨b, o, none⟩ ∧ ∀ (j : Nat) x, xs[j]? = some x → CellsAt w b (o + j * k) (enc x) := by
  obtain ⟨p', c', e, -, -, hx⟩ := h
  cases e
  obtain ⟨b, o, hp, -, hj⟩ := hx hne
  exact ⟨b, o, hp, hj⟩
theorem rword_is {s : ByteArray} {r : Bool} {w : World} (hs : s.size ≤ maxLen) (h : wordB s = r) : Calls Try.prog 38 #[.string s] w fun e w' => e = .returned (.bool r) ∧ Below w.heap.size w w' := by rw [← h]; exact rword_any hs
theorem rcols_is5 {v : Value} {cs : List Cl} {w : World} {r : Bool} (hv : ColsAt w v cs) (h : colsB cs = r) : Calls Try.prog 49 #[v] w fun e w' => e = .returned (.bool r) ∧ Below w.heap.size w w' := by rw [← h]; exact rcols_any hv
theorem one_word {s : Sc} (h : wordB s.nm = false) : oneB s = false := by simp [oneB, h]
theorem one_lens {s : Sc} (h : ¬ ((1 ≤ s.ks.length ∧ s.ks.length ≤ 4) ∧ (1 ≤ s.vs.length ∧ s.vs.length ≤ 4))) : oneB s = false := by
  rw [Bool.eq_false_iff]
  simp only [oneB, ne_eq, Bool.and_eq_true, decide_eq_true_eq]
  intro h'
  exact h h'.1.2
theorem one_col {s : Sc} {k : Nat} (hk : k < (s.ks ++ s.vs).length) (h : wordB (s.ks ++ s.vs)[k]!.nm = false) : oneB s = false := by
  rw [Bool.eq_false_iff]
  simp only [oneB, ne_eq, Bool.and_eq_true, List.all_eq_true]
  intro h'
  have := h'.2.1 _ (List.mem_of_getElem? (get!_some hk))
  rw [h] at this; cases this
theorem one_hist {s : Sc} {k : Nat} (hk : k < s.ks.length) (h : (s.ks ++ s.vs)[k]!.kd = 4) : oneB s = false := by
  rw [Bool.eq_false_iff]
  simp only [oneB, ne_eq, Bool.and_eq_true, List.all_eq_true]
  intro h'
  have e : (s.ks ++ s.vs)[k]! = s.ks[k] := by rw [getElem!_pos _ k (by rw [List.length_append]; omega), List.getElem_append_left hk]
  rw [e] at h
  have := h'.2.2.1 _ (List.getElem_mem hk)
  simp [h] at this
theorem one_end {s : Sc} (h1 : wordB s.nm = true) (h2 : (1 ≤ s.ks.length ∧ s.ks.length ≤ 4) ∧ (1 ≤ s.vs.length ∧ s.vs.length ≤ 4)) (ha : ∀ k, k < (s.ks ++ s.vs).length → wordB (s.ks ++ s.vs)[k]!.nm = true ∧ (k < s.ks.length → ¬ (s.ks ++ s.vs)[k]!.kd = 4)) : oneB s = colsB (s.ks ++ s.vs) := by
  have e1 : (s.ks ++ s.vs).all (fun c => wordB c.nm) = true := by
    rw [List.all_eq_true]
    intro c hc
    obtain ⟨k, hk, rfl⟩ := List.mem_iff_getElem.1 hc
    have := (ha k hk).1
    rwa [getElem!_pos _ k hk] at this
  have e2 : s.ks.all (fun c => !decide (c.kd = 4)) = true := by
    rw [List.all_eq_true]
    intro c hc
    obtain ⟨k, hk, rfl⟩ := List.mem_iff_getElem.1 hc
    have := (ha k (by rw [List.length_append]; omega)).2 hk
    rw [getElem!_pos _ k (by rw [List.length_append]; omega), List.getElem_append_left hk] at this
    simp [this]
  rw [oneB, h1, decide_eq_true h2.1, decide_eq_true h2.2, e1, e2]
  simp
set_option maxRecDepth 100000 in
set_option maxHeartbeats 4000000 in
theorem one_any {v : Value} {s : Sc} {w : World} (hv : ScAt w v s) :
    Calls Try.prog 85 #[v] w fun e w' => e = .returned (.bool (mayB s)) ∧ Below w.heap.size w w' := by
  rw [← one_may]
  obtain ⟨pk, nk, ck, pv, nv, cv, rfl, h1, h2⟩ := sc_form hv
  have hnk : nk = s.ks.length := by obtain ⟨_, _, e, _⟩ := h1; cases e; rfl
  have hnv : nv = s.vs.length := by obtain ⟨_, _, e, _⟩ := h2; cases e; rfl
  have HNK := hid hnk
  have HNV := hid hnv
  have HK := hid h1
  have HV := hid h2
  have HSM := hid s.small
  clear h1 h2 hv hnk hnv
  generalize hr : oneB s = r
  have HR := hid hr
  clear hr
  have HB := hid ((Below.refl w.heap.size w).alloc (Nat.le_refl _) (.cells #[.string s.nm, .slice pk nk ck, .slice pv nv cv] 56))
  have KB := hid (alloc_block w (.cells #[.string s.nm, .slice pk nk ck, .slice pv nv cv] 56))
  cases hw : wordB s.nm with
  | false =>
    go_enter Try.func85, Try.ntmps85
    go_wp2_with (go_at_call 38; refine (rword_is HSM.out hw).mono ?_; rintro e w1 ⟨rfl, hb1⟩)
    go_ret
    exact ⟨ret_bool ((one_word hw).symm.trans HR.out), below_on HB.out hb1⟩
  | true =>
    by_cases hl : (1 ≤ nk ∧ nk ≤ 4) ∧ (1 ≤ nv ∧ nv ≤ 4)
    · have g1 : ¬ (nk : Int) < 1 := by omega
      have g2 : ¬ (4 : Int) < (nk : Int) := by omega
      have g3 : ¬ (nv : Int) < 1 := by omega
      have g4 : ¬ (4 : Int) < (nv : Int) := by omega
      have HLL := hid hl
      clear hl
      go_enter Try.func85, Try.ntmps85
      go_wp2_with (go_at_call 38; refine (rword_is HSM.out hw).mono ?_; rintro e w1 ⟨rfl, hb1⟩; have HB1 := hid (below_on HB.out hb1); have KB1 := hid (block_on KB.out hb1); have kb1 := block_cell KB1.out; clear hb1)
      clear kb1
      have hS0 : B2 w.heap.size (.slice pk nk ck) (.slice pv nv cv) w1 := ⟨block_cell KB1.out 1, block_cell KB1.out 2⟩
      have HA1 : Hid (Below w1.heap.size w1 (w1.drew.alloc (.cells #[] 32))) := lowD w1 _
      have HKB : Hid (∀ w3, Below w1.heap.size w1 w3 → B2 w.heap.size (.slice pk nk ck) (.slice pv nv cv) w3) := fun w3 h => by
        have h1 := block_on KB1.out h
        exact ⟨block_cell h1 1, block_cell h1 2⟩
      have HLN : Hid (s.ks.length + s.vs.length ≤ 8) := by have := HLL.out; have := HNK.out; have := HNV.out; show s.ks.length + s.vs.length ≤ 8; omega
      have M1 : Hid True := trivial
      go_region_held3 (B2 w.heap.size (.slice pk nk ck) (.slice pv nv cv)) (((repeat (first | (with_reducible refine b2D ?_) | (with_reducible refine b2A ?_ _))); (with_reducible assumption)))
        (first
        | (have FIRST := M1; refine step_appC elem45 cl_len (fun x _ => cl_cells x) rfl (.tmp 33) (.tmp 35) rfl (by simp [Act.eval]; try rfl) (by simp [Act.eval]; try rfl) (Own.made Cl.cells 2 32 w1.heap.size w1.drew (Nat.le_refl _)) (HK.out.on (below_on HB1.out HA1.out)) (small2 (by have := HLN.out; simp; omega)) HA1.out.size ?_; intro v5 w5 hown5 hb5 _; rw [List.nil_append] at hown5; have HO5 := hid hown5; have S5 := hid (HA1.out.trans hb5); have hS5 := HKB.out w5 S5.out; obtain ⟨p5, c5, rfl, -⟩ := (Own.sl hown5 cl_len (small2 (by have := HLN.out; omega))); clear hown5 hb5 FIRST M1 hS0)
        | (have FIRST := HO5; refine step_appC elem45 cl_len (fun x _ => cl_cells x) rfl (.tmp 36) (.tmp 38) rfl (by simp [Act.eval]; try rfl) (by simp [Act.eval]; try rfl) HO5.out (HV.out.on (below_on HB1.out S5.out)) (small2 (by have := HLN.out; omega)) S5.out.size ?_; intro v6 w6 hown6 hb6 _; have HR6 := hid ((Own.sl hown6 cl_len (small2 (by have := HLN.out; simp; omega))).imp (Q' := any) (fun _ _ => trivial)); have S6 := hid (S5.out.trans hb6); have hS6 := HKB.out w6 S6.out; obtain ⟨p6, c6, e6, -⟩ := HR6.out; generalize hn6 : List.length (s.ks ++ s.vs) = n6 at e6; have HN6 := hid hn6; subst e6; clear hown6 hb6 FIRST HO5 hS5 hn6))
      go_wp2_with fail
      clear hS6
      have HB6 := hid (below_on HB1.out S6.out)
      have KB6 := hid (block_on KB1.out S6.out)
      have hn8 : n6 ≤ 8 := by have := HN6.out; have := HLN.out; rw [List.length_append] at *; omega
      go_loopw [4] (fun i wr => ∃ k : Nat, k ≤ n6 ∧ i = .int .i64 k ∧ Hid (Below w6.heap.size w6 wr) ∧ Hid (∀ j, j < k → wordB (s.ks ++ s.vs)[j]!.nm = true ∧ (j < s.ks.length → ¬ (s.ks ++ s.vs)[j]!.kd = 4))) (fun i _ => n6 - (intOf i).toNat)
      case atStart => exact ⟨0, by omega, rfl, Below.refl _ _, fun j h => absurd h (Nat.not_lt_zero _)⟩
      case round =>
        obtain ⟨k, hk, rfl, HBk, HA⟩ := hrel
        have kb := block_cell (block_on KB6.out HBk.out)
        by_cases hlt : k < n6
        · have hka : k < (s.ks ++ s.vs).length := by rw [HN6.out]; exact hlt
          obtain ⟨b, o, rfl, hj⟩ := sl_get HR6.out (by intro e; rw [e] at hka; simp at hka)
          obtain ⟨c0, c1⟩ := col_cells ((hj k _ (get!_some hka)).on HBk.out)
          generalize hcc : (s.ks ++ s.vs)[k]! = c at c0 c1
          have HCC := hid hcc
          have HCS := hid c.small
          have HC1 : Hid (∀ x, Below wr.heap.size wr x → x.cell? ⟨b, o + k * 2 + 1, none⟩ = some (.int .i64 c.kd)) := fun x hx => cell_on c1 hx
          have KBk := hid (block_on KB6.out HBk.out)
          clear hj hcc
          cases hwc : wordB c.nm with
          | false =>
            go_wp2_with (go_at_call 38; refine (rword_is HCS.out hwc).mono ?_; rintro e w8 ⟨rfl, hb8⟩)
            go_ret
            exact ⟨ret_bool ((one_col hka (by rw [HCC.out]; exact hwc)).symm.trans HR.out), below_on (below_on HB6.out HBk.out) hb8⟩
          | true =>
            by_cases hkn : k < nk
            · have gk : (k : Int) < (nk : Int) := by omega
              by_cases h4 : c.kd = 4
              · have g4' : (c.kd == 4) = true := by simpa using h4
                have H4 := hid h4
                clear h4
                go_wp2_with (go_at_call 38; refine (rword_is HCS.out hwc).mono ?_; rintro e w8 ⟨rfl, hb8⟩; have HB8 := hid hb8; have kb8 := block_cell (block_on KBk.out hb8); have c8 := HC1.out _ hb8; clear hb8)
                go_ret
                exact ⟨ret_bool ((one_hist (k := k) (by rw [← HNK.out]; exact hkn) (by rw [HCC.out]; exact H4.out)).symm.trans HR.out), below_on (below_on HB6.out HBk.out) HB8.out⟩
              · have g4' : (c.kd == 4) = false := by simpa using h4
                have H4 := hid h4
                clear h4
                go_wp2_with (go_at_call 38; refine (rword_is HCS.out hwc).mono ?_; rintro e w8 ⟨rfl, hb8⟩; have HB8 := hid hb8; have kb8 := block_cell (block_on KBk.out hb8); have c8 := HC1.out _ hb8; clear hb8)
                go_roundw
                case rel =>
                  refine ⟨k + 1, by omega, by go_num, below_on HBk.out HB8.out, fun j h => ?_⟩
                  by_cases e : j = k
                  · subst e; rw [HCC.out]; exact ⟨hwc, fun _ => H4.out⟩
                  · exact HA.out j (by omega)
                case measure => simp [intOf]; omega
            · have gk : ¬ (k : Int) < (nk : Int) := by omega
              go_wp2_with (go_at_call 38; refine (rword_is HCS.out hwc).mono ?_; rintro e w8 ⟨rfl, hb8⟩; have HB8 := hid hb8; have kb8 := block_cell (block_on KBk.out hb8); clear hb8)
              go_roundw
              case rel =>
                refine ⟨k + 1, by omega, by go_num, below_on HBk.out HB8.out, fun j h => ?_⟩
                by_cases e : j = k
                · subst e; rw [HCC.out]; exact ⟨hwc, fun h => absurd h (by rw [← HNK.out]; exact hkn)⟩
                · exact HA.out j (by omega)
              case measure => simp [intOf]; omega
        · have hks : k = n6 := by omega
          subst hks
          have HEND : Hid (oneB s = colsB (s.ks ++ s.vs)) := one_end hw (by have := HLL.out; rw [← HNK.out, ← HNV.out]; exact this) (by rw [HN6.out]; exact HA.out)
          generalize hcb : colsB (s.ks ++ s.vs) = cb at HEND
          have HCB := hid hcb
          clear hcb
          go_wp2_with (go_at_call 49; refine (rcols_is5 (SlAt.on HR6.out HBk.out) HCB.out).mono ?_; rintro e w9 ⟨rfl, hb9⟩)
          go_ret
          exact ⟨ret_bool (HEND.out.symm.trans HR.out), below_on (below_on HB6.out HBk.out) hb9⟩
    · have HLB : Hid (oneB s = false) := one_lens (by rw [← HNK.out, ← HNV.out]; exact hl)
      have hcase : (nk : Int) < 1 ∨ (¬ (nk : Int) < 1 ∧ (4 : Int) < (nk : Int)) ∨ (¬ (nk : Int) < 1 ∧ ¬ (4 : Int) < (nk : Int) ∧ (nv : Int) < 1) ∨ (¬ (nk : Int) < 1 ∧ ¬ (4 : Int) < (nk : Int) ∧ ¬ (nv : Int) < 1 ∧ (4 : Int) < (nv : Int)) := by omega
      clear hl
      rcases hcase with g1 | ⟨g1, g2⟩ | ⟨g1, g2, g3⟩ | ⟨g1, g2, g3, g4⟩
      all_goals
        go_enter Try.func85, Try.ntmps85
        go_wp2_with (go_at_call 38; refine (rword_is HSM.out hw).mono ?_; rintro e w1 ⟨rfl, hb1⟩; have HB1 := hid (below_on HB.out hb1); have kb1 := block_cell (block_on KB.out hb1); clear hb1)
        go_ret
        exact ⟨ret_bool (HLB.out.symm.trans HR.out), HB1.out⟩
end Go.Proofs.Ytjfholofgohcjaa
