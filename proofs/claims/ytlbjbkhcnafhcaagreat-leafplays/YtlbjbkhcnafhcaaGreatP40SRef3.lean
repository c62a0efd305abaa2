/-
  What the reference's One returns, for every schema.
  What the reference's Check returns, for all schemas.
  The reference's leaf in memory: a list of points of its own; its New.
  What the reference's Write returns, and what it leaves.
-/
import Derived.Test.YtlbjbkhcnafhcaaGreatP23SStep
import Derived.Test.YtlbjbkhcnafhcaaGreatQLOnce
import Derived.Test.YtlbjbkhcnafhcaaGreatP22RCheck
import Derived.Test.YtlbjbkhcnafhcaaGreatQLRoom
import Derived.Test.YtlbjbkhcnafhcaaGreatP21STwice
namespace Go.Proofs.YtlbjbkhcnafhcaaGreat
open Go.RowKit Go.Sort Go.Shelf

theorem sl_get {α : Type} {Q : Nat → Prop} {enc : α → List Value} {k : Nat} {w : World} {p : Option Addr} {n cap : Nat} {xs : List α} (h : SlAt Q enc k w (.slice p n cap) xs) (hne : xs ≠ []) : ∃ b o, p = some ⟨b, o, none⟩ ∧ ∀ (j : Nat) x, xs[j]? = some x → CellsAt w b (o + j * k) (enc x) := by
  obtain ⟨p', c', e, -, -, hx⟩ := h
  cases e
  obtain ⟨b, o, hp, -, hj⟩ := hx hne
  exact ⟨b, o, hp, hj⟩
theorem rword_is {s : ByteArray} {r : Bool} {w : World} (hs : s.size ≤ maxLen) (h : wordB s = r) : Calls Tryz.prog 73 #[.string s] w fun e w' => e = .returned (.bool r) ∧ Below w.heap.size w w' := by rw [← h]; exact rword_any hs
theorem rcols_is5 {v : Value} {cs : List Cl} {w : World} {r : Bool} (hv : ColsAt w v cs) (h : colsB cs = r) : Calls Tryz.prog 66 #[v] w fun e w' => e = .returned (.bool r) ∧ Below w.heap.size w w' := by rw [← h]; exact rcols_any hv
theorem one_word {s : Sc} (h : wordB s.nm = false) : oneB s = false := by simp [oneB, h]
theorem one_lens {s : Sc} (h : ¬ ((1 ≤ s.ks.length ∧ s.ks.length ≤ 4) ∧ (1 ≤ s.vs.length ∧ s.vs.length ≤ 4))) : oneB s = false := by
  rw [Bool.eq_false_iff]
  simp only [oneB, ne_eq, Bool.and_eq_true, decide_eq_true_eq]
  intro h'
  exact h h'.1.2
theorem one_col {s : Sc} {k : Nat} (hk : k < (s.ks ++ s.vs).length) (h : wordB (s.ks ++ s.vs)[k]!.nm = false) : oneB s = false := by
  rw [Bool.eq_false_iff]
  simp only [oneB, ne_eq, Bool.and_eq_true, List.all_eq_true]
  intro h'
  have := h'.2.1 _ (List.mem_of_getElem? (get!_some hk))
  rw [h] at this; cases this
theorem one_hist {s : Sc} {k : Nat} (hk : k < s.ks.length) (h : (s.ks ++ s.vs)[k]!.kd = 4) : oneB s = false := by
  rw [Bool.eq_false_iff]
  simp only [oneB, ne_eq, Bool.and_eq_true, List.all_eq_true]
  intro h'
  have e : (s.ks ++ s.vs)[k]! = s.ks[k] := by rw [getElem!_pos _ k (by rw [List.length_append]; omega), List.getElem_append_left hk]
  rw [e] at h
  have := h'.2.2.1 _ (List.getElem_mem hk)
  simp [h] at this
theorem one_end {s : Sc} (h1 : wordB s.nm = true) (h2 : (1 ≤ s.ks.length ∧ s.ks.length ≤ 4) ∧ (1 ≤ s.vs.length ∧ s.vs.length ≤ 4)) (ha : ∀ k, k < (s.ks ++ s.vs).length → wordB (s.ks ++ s.vs)[k]!.nm = true ∧ (k < s.ks.length → ¬ (s.ks ++ s.vs)[k]!.kd = 4)) : oneB s = colsB (s.ks ++ s.vs) := by
  have e1 : (s.ks ++ s.vs).all (fun c => wordB c.nm) = true := by
    rw [List.all_eq_true]
    intro c hc
    obtain ⟨k, hk, rfl⟩ := List.mem_iff_getElem.1 hc
    have := (ha k hk).1
    rwa [getElem!_pos _ k hk] at this
  have e2 : s.ks.all (fun c => !decide (c.kd = 4)) = true := by
    rw [List.all_eq_true]
    intro c hc
    obtain ⟨k, hk, rfl⟩ := List.mem_iff_getElem.1 hc
    have := (ha k (by rw [List.length_append]; omega)).2 hk
    rw [getElem!_pos _ k (by rw [List.length_append]; omega), List.getElem_append_left hk] at this
    simp [this]
  rw [oneB, h1, decide_eq_true h2.1, decide_eq_true h2.2, e1, e2]
  simp
set_option maxRecDepth 100000 in
set_option maxHeartbeats 4000000 in
theorem one_any {v : Value} {s : Sc} {w : World} (hv : ScAt w v s) :
    Calls Tryz.prog 46 #[v] w fun e w' => e = .returned (.bool (mayB s)) ∧ Below w.heap.size w w' := by
  rw [← one_may]
  obtain ⟨pk, nk, ck, pv, nv, cv, rfl, h1, h2⟩ := sc_form hv
  have hnk : nk = s.ks.length := by obtain ⟨_, _, e, _⟩ := h1; cases e; rfl
  have hnv : nv = s.vs.length := by obtain ⟨_, _, e, _⟩ := h2; cases e; rfl
  have HNK := hid hnk
  have HNV := hid hnv
  have HK := hid h1
  have HV := hid h2
  have HSM := hid s.small
  clear h1 h2 hv hnk hnv
  generalize hr : oneB s = r
  have HR := hid hr
  clear hr
  have HB := hid ((Below.refl w.heap.size w).alloc (Nat.le_refl _) (.cells #[.string s.nm, .slice pk nk ck, .slice pv nv cv] 52))
  have KB := hid (alloc_block w (.cells #[.string s.nm, .slice pk nk ck, .slice pv nv cv] 52))
  cases hw : wordB s.nm with
  | false =>
    go_enter Tryz.func46, Tryz.ntmps46
    go_wp2_with (go_at_call 73; refine (rword_is HSM.out hw).mono ?_; rintro e w1 ⟨rfl, hb1⟩)
    go_ret
    exact ⟨ret_bool ((one_word hw).symm.trans HR.out), below_on HB.out hb1⟩
  | true =>
    by_cases hl : (1 ≤ nk ∧ nk ≤ 4) ∧ (1 ≤ nv ∧ nv ≤ 4)
    · have g1 : ¬ (nk : Int) < 1 := by omega
      have g2 : ¬ (4 : Int) < (nk : Int) := by omega
      have g3 : ¬ (nv : Int) < 1 := by omega
      have g4 : ¬ (4 : Int) < (nv : Int) := by omega
      have HLL := hid hl
      clear hl
      go_enter Tryz.func46, Tryz.ntmps46
      go_wp2_with (go_at_call 73; refine (rword_is HSM.out hw).mono ?_; rintro e w1 ⟨rfl, hb1⟩; have HB1 := hid (below_on HB.out hb1); have KB1 := hid (block_on KB.out hb1); have kb1 := block_cell KB1.out; clear hb1)
      clear kb1
      have hS0 : B2 w.heap.size (.slice pk nk ck) (.slice pv nv cv) w1 := ⟨block_cell KB1.out 1, block_cell KB1.out 2⟩
      have HA1 : Hid (Below w1.heap.size w1 (w1.drew.alloc (.cells #[] 90))) := lowD w1 _
      have HKB : Hid (∀ w3, Below w1.heap.size w1 w3 → B2 w.heap.size (.slice pk nk ck) (.slice pv nv cv) w3) := fun w3 h => by
        have h1 := block_on KB1.out h
        exact ⟨block_cell h1 1, block_cell h1 2⟩
      have HLN : Hid (s.ks.length + s.vs.length ≤ 8) := by have := HLL.out; have := HNK.out; have := HNV.out; show s.ks.length + s.vs.length ≤ 8; omega
      have M1 : Hid True := trivial
      go_region_held3 (B2 w.heap.size (.slice pk nk ck) (.slice pv nv cv)) (((repeat (first | (with_reducible refine b2D ?_) | (with_reducible refine b2A ?_ _))); (with_reducible assumption)))
        (first
        | (have FIRST := M1; refine step_appC elem45 cl_len (fun x _ => cl_cells x) rfl (.tmp 33) (.tmp 35) rfl (by simp [Act.eval]; try rfl) (by simp [Act.eval]; try rfl) (Own.made Cl.cells 2 90 w1.heap.size w1.drew (Nat.le_refl _)) (HK.out.on (below_on HB1.out HA1.out)) (small2 (by have := HLN.out; simp; omega)) HA1.out.size ?_; intro v5 w5 hown5 hb5 _; rw [List.nil_append] at hown5; have HO5 := hid hown5; have S5 := hid (HA1.out.trans hb5); have hS5 := HKB.out w5 S5.out; obtain ⟨p5, c5, rfl, -⟩ := (Own.sl hown5 cl_len (small2 (by have := HLN.out; omega))); clear hown5 hb5 FIRST M1 hS0)
        | (have FIRST := HO5; refine step_appC elem45 cl_len (fun x _ => cl_cells x) rfl (.tmp 36) (.tmp 38) rfl (by simp [Act.eval]; try rfl) (by simp [Act.eval]; try rfl) HO5.out (HV.out.on (below_on HB1.out S5.out)) (small2 (by have := HLN.out; omega)) S5.out.size ?_; intro v6 w6 hown6 hb6 _; have HR6 := hid ((Own.sl hown6 cl_len (small2 (by have := HLN.out; simp; omega))).imp (Q' := any) (fun _ _ => trivial)); have S6 := hid (S5.out.trans hb6); have hS6 := HKB.out w6 S6.out; obtain ⟨p6, c6, e6, -⟩ := HR6.out; generalize hn6 : List.length (s.ks ++ s.vs) = n6 at e6; have HN6 := hid hn6; subst e6; clear hown6 hb6 FIRST HO5 hS5 hn6))
      go_wp2_with fail
      clear hS6
      have HB6 := hid (below_on HB1.out S6.out)
      have KB6 := hid (block_on KB1.out S6.out)
      have hn8 : n6 ≤ 8 := by have := HN6.out; have := HLN.out; rw [List.length_append] at *; omega
      go_loopw [4] (fun i wr => ∃ k : Nat, k ≤ n6 ∧ i = .int .i64 k ∧ Hid (Below w6.heap.size w6 wr) ∧ Hid (∀ j, j < k → wordB (s.ks ++ s.vs)[j]!.nm = true ∧ (j < s.ks.length → ¬ (s.ks ++ s.vs)[j]!.kd = 4))) (fun i _ => n6 - (intOf i).toNat)
      case atStart => exact ⟨0, by omega, rfl, Below.refl _ _, fun j h => absurd h (Nat.not_lt_zero _)⟩
      case round =>
        obtain ⟨k, hk, rfl, HBk, HA⟩ := hrel
        have kb := block_cell (block_on KB6.out HBk.out)
        by_cases hlt : k < n6
        · have hka : k < (s.ks ++ s.vs).length := by rw [HN6.out]; exact hlt
          obtain ⟨b, o, rfl, hj⟩ := sl_get HR6.out (by intro e; rw [e] at hka; simp at hka)
          obtain ⟨c0, c1⟩ := col_cells ((hj k _ (get!_some hka)).on HBk.out)
          generalize hcc : (s.ks ++ s.vs)[k]! = c at c0 c1
          have HCC := hid hcc
          have HCS := hid c.small
          have HC1 : Hid (∀ x, Below wr.heap.size wr x → x.cell? ⟨b, o + k * 2 + 1, none⟩ = some (.int .i64 c.kd)) := fun x hx => cell_on c1 hx
          have KBk := hid (block_on KB6.out HBk.out)
          clear hj hcc
          cases hwc : wordB c.nm with
          | false =>
            go_wp2_with (go_at_call 73; refine (rword_is HCS.out hwc).mono ?_; rintro e w8 ⟨rfl, hb8⟩)
            go_ret
            exact ⟨ret_bool ((one_col hka (by rw [HCC.out]; exact hwc)).symm.trans HR.out), below_on (below_on HB6.out HBk.out) hb8⟩
          | true =>
            by_cases hkn : k < nk
            · have gk : (k : Int) < (nk : Int) := by omega
              by_cases h4 : c.kd = 4
              · have g4' : (c.kd == 4) = true := by simpa using h4
                have H4 := hid h4
                clear h4
                go_wp2_with (go_at_call 73; refine (rword_is HCS.out hwc).mono ?_; rintro e w8 ⟨rfl, hb8⟩; have HB8 := hid hb8; have kb8 := block_cell (block_on KBk.out hb8); have c8 := HC1.out _ hb8; clear hb8)
                go_ret
                exact ⟨ret_bool ((one_hist (k := k) (by rw [← HNK.out]; exact hkn) (by rw [HCC.out]; exact H4.out)).symm.trans HR.out), below_on (below_on HB6.out HBk.out) HB8.out⟩
              · have g4' : (c.kd == 4) = false := by simpa using h4
                have H4 := hid h4
                clear h4
                go_wp2_with (go_at_call 73; refine (rword_is HCS.out hwc).mono ?_; rintro e w8 ⟨rfl, hb8⟩; have HB8 := hid hb8; have kb8 := block_cell (block_on KBk.out hb8); have c8 := HC1.out _ hb8; clear hb8)
                go_roundw
                case rel =>
                  refine ⟨k + 1, by omega, by go_num, below_on HBk.out HB8.out, fun j h => ?_⟩
                  by_cases e : j = k
                  · subst e; rw [HCC.out]; exact ⟨hwc, fun _ => H4.out⟩
                  · exact HA.out j (by omega)
                case measure => simp [intOf]; omega
            · have gk : ¬ (k : Int) < (nk : Int) := by omega
              go_wp2_with (go_at_call 73; refine (rword_is HCS.out hwc).mono ?_; rintro e w8 ⟨rfl, hb8⟩; have HB8 := hid hb8; have kb8 := block_cell (block_on KBk.out hb8); clear hb8)
              go_roundw
              case rel =>
                refine ⟨k + 1, by omega, by go_num, below_on HBk.out HB8.out, fun j h => ?_⟩
                by_cases e : j = k
                · subst e; rw [HCC.out]; exact ⟨hwc, fun h => absurd h (by rw [← HNK.out]; exact hkn)⟩
                · exact HA.out j (by omega)
              case measure => simp [intOf]; omega
        · have hks : k = n6 := by omega
          subst hks
          have HEND : Hid (oneB s = colsB (s.ks ++ s.vs)) := one_end hw (by have := HLL.out; rw [← HNK.out, ← HNV.out]; exact this) (by rw [HN6.out]; exact HA.out)
          generalize hcb : colsB (s.ks ++ s.vs) = cb at HEND
          have HCB := hid hcb
          clear hcb
          go_wp2_with (go_at_call 66; refine (rcols_is5 (SlAt.on HR6.out HBk.out) HCB.out).mono ?_; rintro e w9 ⟨rfl, hb9⟩)
          go_ret
          exact ⟨ret_bool (HEND.out.symm.trans HR.out), below_on (below_on HB6.out HBk.out) hb9⟩
    · have HLB : Hid (oneB s = false) := one_lens (by rw [← HNK.out, ← HNV.out]; exact hl)
      have hcase : (nk : Int) < 1 ∨ (¬ (nk : Int) < 1 ∧ (4 : Int) < (nk : Int)) ∨ (¬ (nk : Int) < 1 ∧ ¬ (4 : Int) < (nk : Int) ∧ (nv : Int) < 1) ∨ (¬ (nk : Int) < 1 ∧ ¬ (4 : Int) < (nk : Int) ∧ ¬ (nv : Int) < 1 ∧ (4 : Int) < (nv : Int)) := by omega
      clear hl
      rcases hcase with g1 | ⟨g1, g2⟩ | ⟨g1, g2, g3⟩ | ⟨g1, g2, g3, g4⟩
      all_goals
        go_enter Tryz.func46, Tryz.ntmps46
        go_wp2_with (go_at_call 73; refine (rword_is HSM.out hw).mono ?_; rintro e w1 ⟨rfl, hb1⟩; have HB1 := hid (below_on HB.out hb1); have kb1 := block_cell (block_on KB.out hb1); clear hb1)
        go_ret
        exact ⟨ret_bool (HLB.out.symm.trans HR.out), HB1.out⟩
end Go.Proofs.YtlbjbkhcnafhcaaGreat
namespace Go.Proofs.YtlbjbkhcnafhcaaGreat
open Go.RowKit Go.Sort Go.Shelf

theorem sh_nm4 {w : World} {hs : List Sh} {l : List Sc} (h : HeadsS w hs l) {j : Nat} (hj : j < hs.length) : hs[j]!.nm = l[j]!.nm :=
  (h.2 j _ _ (get!_some hj) (get!_some (by rw [← h.1]; exact hj))).nm
theorem one_is {v : Value} {s : Sc} {w : World} {r : Bool} (hv : ScAt w v s) (h : mayB s = r) : Calls Tryz.prog 46 #[v] w fun e w' => e = .returned (.bool r) ∧ Below w.heap.size w w' := by rw [← h]; exact one_any hv
theorem ok_dup {l : List Sc} {m k : Nat} (hm : m < k) (hk : k < l.length) (h : l[m]!.nm = l[k]!.nm) : checkS l = 50 := by
  refine ok_at hk fun e => ?_
  have hm' : m < l.length := by omega
  have : atS l l[k]!.nm ≤ (m : Int) := by
    unfold atS
    have key : ∀ (ns : List ByteArray) (i m : Nat) (hm : m < ns.length) (nm : ByteArray), ns[m] = nm → nameFrom nm ns i ≤ ((i + m : Nat) : Int) := by
      intro ns
      induction ns with
      | nil => intro i m hm; simp at hm
      | cons y r ih =>
        intro i m hm nm h1
        unfold nameFrom
        by_cases hy : y = nm
        · rw [if_pos hy]; omega
        · rw [if_neg hy]
          cases m with
          | zero => simp at h1; exact absurd h1 hy
          | succ m =>
            have := ih (i + 1) m (by simpa using hm) nm (by simpa using h1)
            omega
    have := key (l.map Sc.nm) 0 m (by simpa using hm') l[k]!.nm (by rw [List.getElem_map, ← h, getElem!_pos l m hm'])
    simpa using this
  omega
set_option maxRecDepth 100000 in
set_option maxHeartbeats 2000000 in
theorem rscheck_any {v : Value} {l : List Sc} {w : World} (hv : SchsAt w v l) :
    Calls Tryz.prog 23 #[v] w fun e w' => e = .returned (.int .i64 (checkS l)) ∧ Below w.heap.size w w' := by
  obtain ⟨hs, ⟨p, cap, rfl, hcap, hmax, hx⟩, hh⟩ := hv
  unfold maxLen at hmax
  generalize hr : checkS l = r
  have HR := hid hr
  have HX := hid hx
  have HH := hid hh
  have hl := hh.1
  clear hr hx hh
  generalize hn : hs.length = n at *
  have HN := hid hn
  have HL := hid hl
  clear hn
  by_cases h1 : n < 1
  · have g1 : (n : Int) < 1 := by omega
    go_enter Tryz.func23, Tryz.ntmps23
    go_wp2
    go_ret
    exact ⟨ret_int ((ok_no (by omega)).symm.trans HR.out), Below.refl _ _⟩
  · have g1 : ¬ (n : Int) < 1 := by omega
    by_cases h2 : 8 < n
    · have g2 : (8 : Int) < (n : Int) := by omega
      go_enter Tryz.func23, Tryz.ntmps23
      go_wp2
      go_ret
      exact ⟨ret_int ((ok_no (by omega)).symm.trans HR.out), Below.refl _ _⟩
    · have g2 : ¬ (8 : Int) < (n : Int) := by omega
      obtain ⟨b, o, rfl, -, hj⟩ := HX.out (by intro e; have := HN.out; rw [e] at this; simp at this; omega)
      have HJ := hid hj
      clear hj HX hl
      go_enter Tryz.func23, Tryz.ntmps23
      go_wp2_with fail
      go_loopw [3] (fun i wr => ∃ k : Nat, k ≤ n ∧ i = .int .i64 k ∧ Hid (Below w.heap.size w wr) ∧ Hid (∀ j, j < k → mayB l[j]! = true ∧ ∀ m, m < j → ¬ l[m]!.nm = l[j]!.nm)) (fun i _ => n - (intOf i).toNat)
      case atStart => exact ⟨0, by omega, rfl, Below.refl _ _, fun j h => absurd h (Nat.not_lt_zero _)⟩
      case round =>
        obtain ⟨k, hk, rfl, HB, HA⟩ := hrel
        by_cases hlt : k < n
        · have hkh : k < hs.length := by rw [HN.out]; exact hlt
          have hkl : k < l.length := by rw [← HL.out]; exact hlt
          obtain ⟨c0, c1, c2⟩ := sh_cells ((HJ.out k _ (get!_some hkh)).on HB.out)
          have hsi := (HH.out.2 k _ _ (get!_some hkh) (get!_some hkl)).on HB.out
          generalize hs[k]! = hd at c0 c1 c2 hsi
          have hsc := sh_is hsi
          obtain ⟨pk, nk, ck, pv, nv, cv, rfl⟩ := sh_form hsi
          dsimp only at c0 c1 c2 hsc
          generalize hlk : l[k]! = s at *
          have HLK := hid hlk
          have HSC := hid hsc
          have HC0 : Hid (∀ x, Below wr.heap.size wr x → x.cell? ⟨b, o + k * 3, none⟩ = some (.string s.nm)) := fun x hx => cell_on c0 hx
          clear hsi hsc hlk
          cases hm : mayB s with
          | false =>
            go_wp2_with (first
              | (go_at_call 46; refine (one_is HSC.out hm).mono ?_; rintro e w1 ⟨rfl, hb1⟩))
            go_ret
            exact ⟨ret_int ((ok_may hkl (by rw [HLK.out]; exact hm)).symm.trans HR.out), below_on HB.out hb1⟩
          | true =>
            go_wp2_with (first
              | (go_at_call 46; refine (one_is HSC.out hm).mono ?_; rintro e w1 ⟨rfl, hb1⟩; have HB1 := hid hb1; clear hb1 c0 c1 c2))
            go_loopw [4] (fun i w2 => ∃ m : Nat, m ≤ k ∧ i = .int .i64 m ∧ Hid (Below wr.heap.size wr w2) ∧ Hid (∀ j, j < m → ¬ l[j]!.nm = s.nm)) (fun i _ => k - (intOf i).toNat)
            case atStart => exact ⟨0, by omega, rfl, HB1.out, fun j h => absurd h (Nat.not_lt_zero _)⟩
            case round =>
              rename_i w2
              obtain ⟨m, hmk, rfl, HB2, HA2⟩ := hrel
              by_cases hml : m < k
              · have hmn : m < n := by omega
                have hmh : m < hs.length := by rw [HN.out]; omega
                have hmll : m < l.length := by rw [← HL.out]; omega
                have d0 := (sh_cells ((HJ.out m _ (get!_some hmh)).on (below_on HB.out HB2.out))).c0
                rw [sh_nm4 HH.out hmh] at d0
                have e0 := HC0.out _ HB2.out
                have HMS : Hid (¬ l[m]!.nm = s.nm → ∀ j, j < m + 1 → ¬ l[j]!.nm = s.nm) := fun h j hj => by
                  by_cases e : j = m
                  · subst e; exact h
                  · exact HA2.out j (by omega)
                have HDU : Hid (l[m]!.nm = s.nm → checkS l = 50) := fun h => ok_dup hml hkl (by rw [HLK.out]; exact h)
                generalize l[m]!.nm = t at d0 HMS HDU
                have hq := bytes_beq t s.nm
                by_cases he : t = s.nm
                · have HE := hid he
                  rw [decide_eq_true he] at hq
                  clear he
                  go_wp2_with fail
                  go_quiet (fail)
                  go_wp2
                  go_ret
                  exact ⟨ret_int ((HDU.out HE.out).symm.trans HR.out), below_drewN (below_on HB.out HB2.out) _⟩
                · have HE := hid he
                  rw [decide_eq_false he] at hq
                  clear he
                  go_wp2_with fail
                  go_quiet (fail)
                  go_wp2
                  go_roundw
                  case rel => exact ⟨m + 1, by omega, by go_num, below_drewN HB2.out _, HMS.out HE.out⟩
                  case measure => simp [intOf]; omega
              · have hmk' : m = k := by omega
                subst hmk'
                go_wp2_with fail
                go_roundw
                case rel =>
                  refine ⟨m + 1, by omega, by go_num, below_on HB.out HB2.out, fun j h => ?_⟩
                  by_cases e : j = m
                  · subst e; rw [HLK.out]; exact ⟨hm, HA2.out⟩
                  · exact HA.out j (by omega)
                case measure => simp [intOf]; omega
        · have hks : k = n := by omega
          subst hks
          go_wp2
          go_ret
          refine ⟨ret_int ((ok_yes (by have := HL.out; omega) (fun j hj => ?_)).symm.trans HR.out), HB.out⟩
          obtain ⟨q1, q2⟩ := HA.out j (by rw [HL.out]; exact hj)
          exact ⟨q1, findS_hit hj rfl q2⟩
theorem rscheck_is {v : Value} {l : List Sc} {w : World} {r : Int} (hv : SchsAt w v l) (h : checkS l = r) : Calls Tryz.prog 23 #[v] w fun e w' => e = .returned (.int .i64 r) ∧ Below w.heap.size w w' := by rw [← h]; exact rscheck_any hv
end Go.Proofs.YtlbjbkhcnafhcaaGreat
namespace Go.Proofs.YtlbjbkhcnafhcaaGreat
open Go.RowKit Go.Sort Go.Shelf Go.Maps

def HeadsY (P : Nat → Prop) (w : World) (hs : List Ph) (l : List Pt) : Prop := hs.length = l.length ∧ ∀ (j : Nat) h p, hs[j]? = some h → l[j]? = some p → h.nm = p.sc ∧ h.tm = p.tm ∧ RowIn (ty36 P w) w h.kv p.ks ∧ RowIn (ty36 P w) w h.vv p.vs
theorem HeadsY.kp {P T : Nat → Prop} {w w' : World} {hs : List Ph} {l : List Pt} (h : HeadsY P w hs l) (hk : Kp T w w') (ht : ∀ k, ty36 P w k → ¬ T k) : HeadsY P w' hs l := ⟨h.1, fun j x s h1 h2 => let ⟨a, b, c, d⟩ := h.2 j x s h1 h2; ⟨a, b, row_kp c hk ht, row_kp d hk ht⟩⟩
theorem HeadsY.on {P : Nat → Prop} {w w' : World} {hs : List Ph} {l : List Pt} (h : HeadsY P w hs l) (hb : Below w.heap.size w w') : HeadsY P w' hs l := h.kp (T := fun _ => False) (Kp.of hb) (fun _ _ => id)
theorem headsY_snoc {P : Nat → Prop} {w : World} {hs : List Ph} {l : List Pt} {h : Ph} {p : Pt} (hh : HeadsY P w hs l) (hi : h.nm = p.sc ∧ h.tm = p.tm ∧ RowIn (ty36 P w) w h.kv p.ks ∧ RowIn (ty36 P w) w h.vv p.vs) : HeadsY P w (hs ++ [h]) (l ++ [p]) := by
  refine ⟨by simp [hh.1], fun j x q h1 h2 => ?_⟩
  by_cases hlt : j < hs.length
  · rw [List.getElem?_append_left hlt] at h1
    rw [List.getElem?_append_left (by rw [← hh.1]; exact hlt)] at h2
    exact hh.2 j x q h1 h2
  · have hj : j = hs.length := by have := (List.getElem?_eq_some_iff.1 h1).1; simp at this; omega
    subst hj
    rw [List.getElem?_append_right (Nat.le_refl _)] at h1
    rw [hh.1, List.getElem?_append_right (Nat.le_refl _)] at h2
    simp at h1 h2
    subst h1 h2
    exact hi
structure Rf (B : Nat) (P : Nat → Prop) (w : World) (yb : Nat) (sv : Value) (room : Int) (v : Value) (pts : List Pt) : Prop where
  bB : B ≤ yb
  blk : w.heap[yb]? = some (.cells #[sv, .int .i64 room, v] 50)
  row : ∃ hs, Own Ph.cells 4 34 B w v hs ∧ HeadsY P w hs pts
def Ty (yb : Nat) (v : Value) (k : Nat) : Prop := k = yb ∨ v.ownBlock = some k
theorem Rf.kp {B : Nat} {P T : Nat → Prop} {w w' : World} {yb : Nat} {sv : Value} {room : Int} {v : Value} {pts : List Pt} (h : Rf B P w yb sv room v pts) (hk : Kp T w w') (hb : ∀ k, Ty yb v k → ¬ T k) (ht : ∀ k, ty36 P w k → ¬ T k) : Rf B P w' yb sv room v pts :=
  let ⟨hs, h1, h2⟩ := h.row; ⟨h.bB, hk.blk h.blk (hb _ (.inl rfl)), ⟨hs, own_kp h1 hk (fun g hg => hb g (.inr hg)), h2.kp hk ht⟩⟩
theorem Rf.on {B : Nat} {P : Nat → Prop} {w w' : World} {yb : Nat} {sv : Value} {room : Int} {v : Value} {pts : List Pt} (h : Rf B P w yb sv room v pts) (hb : Below w.heap.size w w') : Rf B P w' yb sv room v pts :=
  h.kp (T := fun _ => False) (Kp.of hb) (fun _ _ => id) (fun _ _ => id)
theorem Rf.P {B : Nat} {P P' : Nat → Prop} {w : World} {yb : Nat} {sv : Value} {room : Int} {v : Value} {pts : List Pt} (h : Rf B P w yb sv room v pts) (hp : ∀ k, k < w.heap.size → P k → P' k) : Rf B P' w yb sv room v pts := by
  obtain ⟨hs, h1, h2⟩ := h.row
  have up : ∀ k, ty36 P w k → ty36 P' w k := fun k ⟨a, c, fz, hc⟩ => ⟨hp k (lt_of_block hc) a, c, fz, hc⟩
  exact ⟨h.bB, h.blk, ⟨hs, h1, h2.1, fun j x q a b => let ⟨c, d, e, f⟩ := h2.2 j x q a b; ⟨c, d, e.imp fun k hk => up k hk, f.imp fun k hk => up k hk⟩⟩⟩
theorem Rf.T_kind {B : Nat} {P : Nat → Prop} {w : World} {yb : Nat} {sv : Value} {room : Int} {v : Value} {pts : List Pt} (h : Rf B P w yb sv room v pts) : ∀ k, Ty yb v k → ∃ cs t fz, w.heap[k]? = some (.cells cs t fz) ∧ (t = 50 ∨ t = 34) := by
  rintro k (rfl | hk)
  · exact ⟨_, _, _, h.blk, .inl rfl⟩
  · obtain ⟨hs, h1, _⟩ := h.row
    obtain ⟨c, f, hc⟩ := own_kind h1 hk
    exact ⟨_, _, _, hc, .inr rfl⟩
theorem Rf.get {B : Nat} {P : Nat → Prop} {w : World} {yb : Nat} {sv : Value} {room : Int} {v : Value} {l : List Pt} (h : Rf B P w yb sv room v l) (hl : l.length ≤ 1000) : ∃ p c, v = .slice p l.length c ∧ l.length ≤ c ∧ ∀ (j : Nat) q, l[j]? = some q → ∃ g o pk ck pv cv, p = some ⟨g, o, none⟩ ∧ PtC w g (o + j * 4) q pk ck pv cv := by
  obtain ⟨hs, h1, h2⟩ := h.row
  obtain ⟨p, c, hv, hc, hm, hx⟩ := Own.sl h1 ph_len (by rw [h2.1]; unfold bsz; simp; omega)
  refine ⟨p, c, by rw [hv, h2.1], by have := hc.1; rw [h2.1] at this; exact this, fun j q hj => ?_⟩
  have hjl : j < hs.length := by rw [h2.1]; exact (List.getElem?_eq_some_iff.1 hj).1
  obtain ⟨g, o, hp, -, hcell⟩ := hx (by intro e; subst e; simp at hjl)
  obtain ⟨e1, e2, e3, e4⟩ := h2.2 j _ _ (List.getElem?_eq_getElem hjl) hj
  have hcs := hcell j _ (List.getElem?_eq_getElem hjl)
  have c0 := hcs 0 _ rfl
  have c1 := hcs 1 _ rfl
  have c2 := hcs 2 _ rfl
  have c3 := hcs 3 _ rfl
  have e3' := e3
  have e4' := e4
  obtain ⟨pk, ck, hkv, -⟩ := e3
  obtain ⟨pv, cv, hvv, -⟩ := e4
  rw [e1] at c0
  rw [e2] at c2
  rw [hkv] at c1 e3'
  rw [hvv] at c3 e4'
  exact ⟨g, o, pk, ck, pv, cv, hp, ⟨c0, c1, c2, c3, e3'.imp fun _ _ => trivial, e4'.imp fun _ _ => trivial⟩⟩
set_option maxRecDepth 100000 in
set_option maxHeartbeats 1000000 in
theorem rfnew_bad {v : Value} {S : List Sc} {room : Int} {w : World} (hv : SchsAt w v S) (hc : checkS S = 50) :
    Calls Tryz.prog 9 #[v, .int .i64 room] w fun e w' => e = .returned (.tuple #[.pointer none, .int .i64 50]) ∧ Below w.heap.size w w' := by
  have HV := hid hv
  have HC := hid hc
  clear hv hc
  go_enter Tryz.func9, Tryz.ntmps9
  go_wp2_with (first | (go_at_call 23; refine (rscheck_is HV.out HC.out).mono ?_; rintro e w1 ⟨rfl, hb1⟩))
  exact bodyPost_ret (v := .tuple #[.pointer none, .int .i64 50]) (by simp [results, Tryz.results9, go_sem]) rfl ⟨rfl, hb1⟩
set_option maxRecDepth 100000 in
set_option maxHeartbeats 1000000 in
theorem rfnew_ok {P : Nat → Prop} {p : Option Addr} {n c : Nat} {S : List Sc} {room : Int} {w : World} (hv : SchsAt w (.slice p n c) S) (hc : checkS S = 0) :
    Calls Tryz.prog 9 #[.slice p n c, .int .i64 room] w fun e w' => ∃ yb, e = .returned (.tuple #[dp yb, .int .i64 0]) ∧ Rf w.heap.size P w' yb (.slice p n c) room (.slice none 0 0) [] ∧ Below w.heap.size w w' := by
  have HV := hid hv
  have HC := hid hc
  clear hv hc
  go_enter Tryz.func9, Tryz.ntmps9
  go_wp2_with (first | (go_at_call 23; refine (rscheck_is HV.out HC.out).mono ?_; rintro e w1 ⟨rfl, hb1⟩))
  have hblk := alloc_block w1 (.cells #[.slice p n c, .int .i64 room, .slice none 0 0] 50)
  exact bodyPost_ret (v := .tuple #[dp w1.heap.size, .int .i64 0]) (by simp [results, Tryz.results9, go_sem]) rfl ⟨_, rfl, ⟨hb1.size, hblk, ⟨[], Own.nil _ _ _ _ _, rfl, fun j h q h1 _ => by simp at h1⟩⟩, hb1.alloc hb1.size _⟩
end Go.Proofs.YtlbjbkhcnafhcaaGreat
namespace Go.Proofs.YtlbjbkhcnafhcaaGreat
open Go.RowKit Go.Sort Go.Shelf Go.Maps

theorem enters31 : ∀ args w, (callFunc 31 args).run Tryz.prog w = .ok (.enter 31 args) w := enters_of Tryz.func31 (by kernel_rfl) rfl
theorem rsfits_is {v u : Value} {l : List Sc} {p : Pt} {w : World} {z : Int} (hv : SchsAt w v l) (hp : PtAt w u p) (h : fitsS l p = z) : Calls Tryz.prog 31 #[v, u] w fun e w' => e = .returned (.int .i64 z) ∧ Below w.heap.size w w' := by rw [← h]; exact rsfits_any hv hp
abbrev BY (bx : Nat) (n k t v : Value) (b : Nat) (c0 c1 c2 : Value) (w : World) : Prop := (w.cell? ⟨bx, 0, none⟩ = some n ∧ w.cell? ⟨bx, 1, none⟩ = some k ∧ w.cell? ⟨bx, 2, none⟩ = some t ∧ w.cell? ⟨bx, 3, none⟩ = some v) ∧ w.cell? ⟨b, 0, none⟩ = some c0 ∧ w.cell? ⟨b, 1, none⟩ = some c1 ∧ w.cell? ⟨b, 2, none⟩ = some c2
theorem byD {w : World} {bx b : Nat} {n k t v c0 c1 c2 : Value} (h : BY bx n k t v b c0 c1 c2 w) : BY bx n k t v b c0 c1 c2 w.drew := h
theorem byOf {w : World} {bx b : Nat} {n k t v c0 c1 c2 : Value} (h1 : w.heap[bx]? = some (.cells #[n, k, t, v] 34)) (h2 : w.heap[b]? = some (.cells #[c0, c1, c2] 50)) : BY bx n k t v b c0 c1 c2 w :=
  ⟨⟨block_cell h1 0, block_cell h1 1, block_cell h1 2, block_cell h1 3⟩, block_cell h2 0, block_cell h2 1, block_cell h2 2⟩
theorem byOn {w w' : World} {bx b : Nat} {n k t v c0 c1 c2 : Value} (h : BY bx n k t v b c0 c1 c2 w) (hb : Below w.heap.size w w') : BY bx n k t v b c0 c1 c2 w' := ⟨⟨SN.cell_onB h.1.1 hb, SN.cell_onB h.1.2.1 hb, SN.cell_onB h.1.2.2.1 hb, SN.cell_onB h.1.2.2.2 hb⟩, SN.cell_onB h.2.1 hb, SN.cell_onB h.2.2.1 hb, SN.cell_onB h.2.2.2 hb⟩
theorem byA {w : World} {bx b : Nat} {n k t v c0 c1 c2 : Value} (h : BY bx n k t v b c0 c1 c2 w) (o : Obj) : BY bx n k t v b c0 c1 c2 (w.alloc o) := byOn h ((Below.refl _ _).alloc (Nat.le_refl _) o)
/- Where the point does not fit. -/
set_option maxRecDepth 100000 in
set_option maxHeartbeats 2000000 in
theorem rfwrite_unfit {B : Nat} {P : Nat → Prop} {w : World} {yb : Nat} {ps : Option Addr} {ns cs : Nat} {S : List Sc} {room : Int} {v : Value} {pts : List Pt} {u : Value} {p : Pt} {z : Int} (h : Rf B P w yb (.slice ps ns cs) room v pts) (hs : SchsAt w (.slice ps ns cs) S) (hp : PtAt w u p) (hl : pts.length ≤ 1000) (hz : fitsS S p = z) (hz0 : z ≠ 0) :
    Calls Tryz.prog 12 #[dp yb, u] w fun e w' => e = .returned (.tuple #[.bool false, .int .i64 z]) ∧ Below w.heap.size w w' := by
  obtain ⟨pk, ck, pv, cv, rfl, hrk, hrv⟩ := pt_form hp
  obtain ⟨pl, cl, rfl, _, _⟩ := h.get hl
  have hB0 := (Below.refl w.heap.size w).alloc (Nat.le_refl _) (.cells #[.string p.sc, .slice pk (List.length p.ks) ck, .int .i64 p.tm, .slice pv (List.length p.vs) cv] 34)
  have HB0 := hid hB0
  have KB0 := alloc_block w (.cells #[.string p.sc, .slice pk (List.length p.ks) ck, .int .i64 p.tm, .slice pv (List.length p.vs) cv] 34)
  have hS0 := byOf KB0 (h.on hB0).blk
  have HS := hid hS0
  have HSc := hid (hs.on hB0)
  have HPt := hid (hp.on hB0)
  have HZ := hid hz
  clear KB0 hB0 hrk hrv hp hs h hz hl
  generalize List.length p.ks = nk at *
  generalize List.length p.vs = nv at *
  generalize pts.length = NN at *
  go_enter Tryz.func12, Tryz.ntmps12
  go_wp2_with fail
  generalize hBX : w.heap.size = BX at *
  have HBX := hid hBX
  generalize (w.alloc (.cells #[.string p.sc, .slice pk nk ck, .int .i64 p.tm, .slice pv nv cv] 34)) = W at *
  clear hBX
  go_region_held3 (BY BX (.string p.sc) (.slice pk nk ck) (.int .i64 p.tm) (.slice pv nv cv) yb (.slice ps ns cs) (.int .i64 room) (.slice pl NN cl)) (((repeat (first | (with_reducible refine byD ?_) | (with_reducible refine byA ?_ _))); (with_reducible assumption)))
    (first
    | (refine step_call2 (v := .slice ps ns cs) (v2 := .agg #[.string p.sc, .slice pk nk ck, .int .i64 p.tm, .slice pv nv cv]) rfl (.tmp 12) (.tmp 13) 22 34 rfl (by simp [Act.eval]) (by simp [Act.eval]) enters31 ?_; refine (rsfits_is (HSc.out.on (Below.refl _ _).drew) (HPt.out.on (Below.refl _ _).drew) HZ.out).mono ?_; rintro e w1 ⟨rfl, hb1⟩; refine ⟨_, rfl, ?_⟩; have HB1 : Hid (Below W.heap.size W w1) := (Below.refl _ _).drew.trans hb1; have hS1 := byOn HS.out HB1.out; clear hb1 hS0))
  have hzb : (z != 0) = true := by simp [hz0]
  go_wp2_with fail
  have e := HBX.out
  have hq := HB0.out
  rw [e]
  exact bodyPost_ret (v := .tuple #[.bool false, .int .i64 z]) (by simp [results, Tryz.results12, go_sem]) rfl ⟨rfl, hq.trans (HB1.out.mono (by have := hq.size; omega))⟩
theorem has_at {pts : List Pt} {p q : Pt} {k : Nat} (h : pts[k]? = some q) (e1 : q.sc = p.sc) (e2 : q.tm = p.tm) (e3 : q.ks = p.ks) : hasP pts p = true := by
  unfold hasP sameP
  simp only [List.any_eq_true, decide_eq_true_eq]
  exact ⟨q, List.mem_of_getElem? h, e1, e2, e3⟩
theorem has_not {pts : List Pt} {p : Pt} (h : ∀ (j : Nat) q, j < pts.length → pts[j]? = some q → sameP p q = false) : hasP pts p = false := by
  rw [Bool.eq_false_iff]
  intro e
  unfold hasP at e
  obtain ⟨q, hq, h2⟩ := List.any_eq_true.1 e
  obtain ⟨j, hj, rfl⟩ := List.getElem_of_mem hq
  rw [h j _ hj (List.getElem?_eq_getElem hj)] at h2
  cases h2
/- Where it fits, and is there already, or finds no room. -/
set_option maxRecDepth 100000 in
set_option maxHeartbeats 4000000 in
theorem rfwrite_no {B : Nat} {P : Nat → Prop} {w : World} {yb : Nat} {ps : Option Addr} {ns cs : Nat} {S : List Sc} {room : Int} {v : Value} {pts : List Pt} {u : Value} {p : Pt} {z : Int} (h : Rf B P w yb (.slice ps ns cs) room v pts) (hs : SchsAt w (.slice ps ns cs) S) (hp : PtAt w u p) (hl : pts.length ≤ 1000) (hf : fitsS S p = 0) (hno : wrN S room pts p = false) (hz : wrE S room pts p = z) :
    Calls Tryz.prog 12 #[dp yb, u] w fun e w' => e = .returned (.tuple #[.bool false, .int .i64 z]) ∧ Below w.heap.size w w' := by
  obtain ⟨pk, ck, pv, cv, rfl, hrk, hrv⟩ := pt_form hp
  obtain ⟨pl, cl, rfl, hcl, hx⟩ := h.get hl
  have HX := hid hx
  have hB0 := (Below.refl w.heap.size w).alloc (Nat.le_refl _) (.cells #[.string p.sc, .slice pk (List.length p.ks) ck, .int .i64 p.tm, .slice pv (List.length p.vs) cv] 34)
  have HB0 := hid hB0
  have KB0 := alloc_block w (.cells #[.string p.sc, .slice pk (List.length p.ks) ck, .int .i64 p.tm, .slice pv (List.length p.vs) cv] 34)
  have hS0 := byOf KB0 (h.on hB0).blk
  have HS := hid hS0
  have HSc := hid (hs.on hB0)
  have HPt := hid (hp.on hB0)
  have HRk := hid (hrk.on hB0)
  have HF := hid hf
  have HNo := hid hno
  have HZ := hid hz
  clear KB0 hB0 hrk hrv hp hs h hz hno hf hx
  generalize hnk : List.length p.ks = nk at *
  generalize List.length p.vs = nv at *
  generalize hNN : pts.length = NN at *
  have HNN := hid hNN
  clear hNN hnk
  go_enter Tryz.func12, Tryz.ntmps12
  go_wp2_with fail
  generalize hBX : w.heap.size = BX at *
  have HBX := hid hBX
  generalize (w.alloc (.cells #[.string p.sc, .slice pk nk ck, .int .i64 p.tm, .slice pv nv cv] 34)) = W at *
  clear hBX
  go_region_held3 (BY BX (.string p.sc) (.slice pk nk ck) (.int .i64 p.tm) (.slice pv nv cv) yb (.slice ps ns cs) (.int .i64 room) (.slice pl NN cl)) (((repeat (first | (with_reducible refine byD ?_) | (with_reducible refine byA ?_ _))); (with_reducible assumption)))
    (first
    | (refine step_call2 (v := .slice ps ns cs) (v2 := .agg #[.string p.sc, .slice pk nk ck, .int .i64 p.tm, .slice pv nv cv]) rfl (.tmp 12) (.tmp 13) 22 34 rfl (by simp [Act.eval]) (by simp [Act.eval]) enters31 ?_; refine (rsfits_is (HSc.out.on (Below.refl _ _).drew) (HPt.out.on (Below.refl _ _).drew) HF.out).mono ?_; rintro e w1 ⟨rfl, hb1⟩; refine ⟨_, rfl, ?_⟩; have HB1 : Hid (Below W.heap.size W w1) := (Below.refl _ _).drew.trans hb1; have hS1 := byOn HS.out HB1.out; clear hb1 hS0))
  clear hS1
  go_wp2_with fail
  have HBd : Hid (∀ w', Below W.heap.size W w' → Below w.heap.size w w') := fun w' hb => by
    have e := HBX.out
    rw [e]
    exact HB0.out.trans (hb.mono (by have := HB0.out.size; omega))
  go_loopw [7] (fun i wr => ∃ k : Nat, k ≤ NN ∧ i = .int .i64 k ∧ Hid (∀ (j : Nat) q, j < k → pts[j]? = some q → sameP p q = false) ∧ Hid (Below W.heap.size W wr)) (fun i _ => NN - (intOf i).toNat)
  case atStart => exact ⟨0, by omega, rfl, (fun j q hj => absurd hj (Nat.not_lt_zero _)), HB1.out⟩
  case round =>
    obtain ⟨k, hk, rfl, HA, HB⟩ := hrel
    obtain ⟨⟨b0, b1, b2, b3⟩, y0, y1, y2⟩ := byOn HS.out HB.out
    by_cases hlt : k < NN
    · have hk' : k < pts.length := by rw [HNN.out]; exact hlt
      obtain ⟨q, hq⟩ : ∃ q, pts[k]? = some q := ⟨pts[k], List.getElem?_eq_getElem hk'⟩
      obtain ⟨g, o, pk', ck', pv', cv', rfl, hpc⟩ := HX.out k q hq
      have hpc' := hpc.on (HBd.out _ HB.out)
      obtain ⟨c0, c1, c2, c3, hks, -⟩ := hpc'
      have HKs := hid hks
      have HQ := hid hq
      clear hks hpc hq hk'
      generalize hnk' : List.length q.ks = nk' at *
      generalize List.length q.vs = nv' at *
      clear hnk'
      obtain ⟨W1, hW1⟩ : ∃ W, W = wr := ⟨wr, rfl⟩
      subst hW1
      have hBx := (Below.refl W1.heap.size W1).alloc (Nat.le_refl _) (.cells #[.string q.sc, .slice pk' nk' ck', .int .i64 q.tm, .slice pv' nv' cv'] 34)
      have HBx : Hid (Below W.heap.size W (W1.alloc (.cells #[.string q.sc, .slice pk' nk' ck', .int .i64 q.tm, .slice pv' nv' cv'] 34))) := HB.out.trans (hBx.mono HB.out.size)
      have HKx := hid (HKs.out.on hBx)
      have HPx := hid (HRk.out.on HBx.out)
      clear hBx
      have step : sameP p q = false → ∀ (j : Nat) q', j < k + 1 → pts[j]? = some q' → sameP p q' = false := fun e j q' hj hq' => by
        by_cases ej : j = k
        · subst ej; rw [HQ.out] at hq'; cases hq'; exact e
        · exact HA.out j q' (by omega) hq'
      have HStep := hid step
      clear step
      by_cases hnm : q.sc = p.sc
      · by_cases htm : q.tm = p.tm
        · rw [htm, hnm] at HKx HPx HBx
          rw [hnm] at c0
          rw [htm] at c2
          obtain ⟨⟨d0, d1, d2, d3⟩, -⟩ := byOn HS.out HBx.out
          obtain ⟨cz, hcz⟩ : ∃ c, cmpR q.ks p.ks = c := ⟨_, rfl⟩
          have HCz := hid hcz
          by_cases hk0 : cz = 0
          · have hhas := has_at HQ.out hnm htm ((cmpR_zero _ _).1 (hcz.trans hk0))
            have hz0 : z = 0 := by have := HZ.out; unfold wrE at this; rw [if_pos HF.out, if_pos hhas] at this; exact this.symm
            subst hz0 hk0
            clear hcz
            go_wp2_with (go_at_call 32; refine (rrow_is HKx.out HPx.out HCz.out).mono ?_; rintro e w2 ⟨rfl, hb2⟩; have HB2 := hid hb2; clear hb2)
            exact bodyPost_ret (v := .tuple #[.bool false, .int .i64 0]) (by simp [results, Tryz.results12, go_sem]) rfl ⟨rfl, HBd.out _ (HBx.out.trans (HB2.out.mono HBx.out.size))⟩
          · have hsame : sameP p q = false := by
              simp only [sameP, decide_eq_false_iff_not]
              exact fun hh => hk0 (hcz.symm.trans ((cmpR_zero _ _).2 hh.2.2))
            have hkb : (cz == 0) = false := by simp [hk0]
            clear hcz
            go_wp2_with (go_at_call 32; refine (rrow_is HKx.out HPx.out HCz.out).mono ?_; rintro e w2 ⟨rfl, hb2⟩; have HB2 := hid hb2; clear hb2)
            go_roundw
            case rel => exact ⟨k + 1, by omega, by go_num, HStep.out hsame, HBx.out.trans (HB2.out.mono HBx.out.size)⟩
            case measure => simp [intOf]; omega
        · have hsame : sameP p q = false := by
            simp only [sameP, decide_eq_false_iff_not]
            exact fun hh => htm hh.2.1
          have htb : (q.tm == p.tm) = false := by simp [htm]
          rw [hnm] at c0 HBx
          obtain ⟨⟨d0, d1, d2, d3⟩, -⟩ := byOn HS.out HBx.out
          go_wp2_with fail
          go_roundw
          case rel => exact ⟨k + 1, by omega, by go_num, HStep.out hsame, HBx.out⟩
          case measure => simp [intOf]; omega
      · have hsame : sameP p q = false := by
          simp only [sameP, decide_eq_false_iff_not]
          exact fun hh => hnm hh.1
        have hnb : (q.sc.toList == p.sc.toList) = false := by rw [bytes_beq]; simpa using hnm
        obtain ⟨⟨d0, d1, d2, d3⟩, -⟩ := byOn HS.out HBx.out
        go_wp2_with fail
        go_roundw
        case rel => exact ⟨k + 1, by omega, by go_num, HStep.out hsame, HBx.out⟩
        case measure => simp [intOf]; omega
    · have ek : k = NN := by omega
      subst ek
      have hhas : hasP pts p = false := has_not fun j q hj => HA.out j q (by have := HNN.out; omega)
      have hroom : ¬ ((k : Int) < room) := fun hr => by
        have := HNo.out
        unfold wrN at this
        rw [HF.out, hhas, HNN.out, decide_eq_true hr] at this
        simp at this
      have hz0 : z = 80 := by have := HZ.out; unfold wrE at this; rw [if_pos HF.out, hhas, if_neg (by decide), HNN.out, if_neg hroom] at this; exact this.symm
      subst hz0
      have hge : room ≤ (k : Int) := by omega
      have hSr := byOn HS.out HB.out
      clear b0 b1 b2 b3
      go_wp2_with fail
      go_region_held3 (BY BX (.string p.sc) (.slice pk nk ck) (.int .i64 p.tm) (.slice pv nv cv) yb (.slice ps ns cs) (.int .i64 room) (.slice pl k cl)) (((repeat (first | (with_reducible refine byD ?_) | (with_reducible refine byA ?_ _))); (with_reducible assumption))) (fail)
      go_wp2_with fail
      exact bodyPost_ret (v := .tuple #[.bool false, .int .i64 80]) (by simp [results, Tryz.results12, go_sem]) rfl ⟨rfl, HBd.out _ HB.out.drew⟩
end Go.Proofs.YtlbjbkhcnafhcaaGreat
