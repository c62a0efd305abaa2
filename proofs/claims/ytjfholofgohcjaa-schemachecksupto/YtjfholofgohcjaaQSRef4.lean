/-
  What the reference's Check returns, for all schemas.
-/
import Derived.Test.YtjfholofgohcjaaQSRef3
namespace Go.Proofs.Ytjfholofgohcjaa
open Go.RowKit Go.Sort Go.Shelf

theorem sh_nm4 {w : World} {hs : List Sh} {l : List Sc} (h : HeadsS w hs l) {j : Nat} (hj : j < hs.length) : hs[j]!.nm = l[j]!.nm :=
  (h.2 j _ _ (get!_some hj) (get!_some (by rw [← h.1]; exact hj))).nm
theorem one_is {v : Value} {s : Sc} {w : World} {r : Bool} (hv : ScAt w v s) (h : mayB s = r) : Calls Try.prog 85 #[v] w fun e w' => e = .returned (.bool r) ∧ Below w.heap.size w w' := by rw [← h]; exact one_any hv
theorem ok_dup {l : List Sc} {m k : Nat} (hm : m < k) (hk : k < l.length) (h : l[m]!.nm = l[k]!.nm) : checkS l = 50 := by
  refine ok_at hk fun e => ?_
  have hm' : m < l.length := by omega
  have : atS l l[k]!.nm ≤ (m : Int) := by
    unfold atS
    have key : ∀ (ns : List ByteArray) (i m : Nat) (hm : m < ns.length) (nm : ByteArray), ns[m] = nm → nameFrom nm ns i ≤ ((i + m : Nat) : Int) := by
      intro ns
      induction ns with
      | nil => intro i m hm; simp at hm
      | cons y r ih =>
        intro i m hm nm h1
        unfold nameFrom
        by_cases hy : y = nm
        · rw [if_pos hy]; omega
        · rw [if_neg hy]
          cases m with
          | zero => simp at h1; exact absurd h1 hy
          | succ m =>
            have := ih (i + 1) m (by simpa using hm) nm (by simpa using h1)
            omega
    have := key (l.map Sc.nm) 0 m (by simpa using hm') l[k]!.nm (by rw [List.getElem_map, ← h, getElem!_pos l m hm'])
    simpa using this
  omega
set_option maxRecDepth 100000 in
set_option maxHeartbeats 2000000 in
theorem rscheck_any {v : Value} {l : List Sc} {w : World} (hv : SchsAt w v l) :
    Calls Try.prog 40 #[v] w fun e w' => e = .returned (.int .i64 (checkS l)) ∧ Below w.heap.size w w' := by
  obtain ⟨hs, ⟨p, cap, rfl, hcap, hmax, hx⟩, hh⟩ := hv
  unfold maxLen at hmax
  generalize hr : checkS l = r
  have HR := hid hr
  have HX := hid hx
  have HH := hid hh
  have hl := hh.1
  clear hr hx hh
  generalize hn : hs.length = n at *
  have HN := hid hn
  have HL := hid hl
  clear hn
  by_cases h1 : n < 1
  · have g1 : (n : Int) < 1 := by omega
    go_enter Try.func40, Try.ntmps40
    go_wp2
    go_ret
    exact ⟨ret_int ((ok_no (by omega)).symm.trans HR.out), Below.refl _ _⟩
  · have g1 : ¬ (n : Int) < 1 := by omega
    by_cases h2 : 8 < n
    · have g2 : (8 : Int) < (n : Int) := by omega
      go_enter Try.func40, Try.ntmps40
      go_wp2
      go_ret
      exact ⟨ret_int ((ok_no (by omega)).symm.trans HR.out), Below.refl _ _⟩
    · have g2 : ¬ (8 : Int) < (n : Int) := by omega
      obtain ⟨b, o, rfl, -, hj⟩ := HX.out (by intro e; have := HN.out; rw [e] at this; simp at this; omega)
      have HJ := hid hj
      clear hj HX hl
      go_enter Try.func40, Try.ntmps40
      go_wp2_with fail
      go_loopw [3] (fun i wr => ∃ k : Nat, k ≤ n ∧ i = .int .i64 k ∧ Hid (Below w.heap.size w wr) ∧ Hid (∀ j, j < k → mayB l[j]! = true ∧ ∀ m, m < j → ¬ l[m]!.nm = l[j]!.nm)) (fun i _ => n - (intOf i).toNat)
      case atStart => exact ⟨0, by omega, rfl, Below.refl _ _, fun j h => absurd h (Nat.not_lt_zero _)⟩
      case round =>
        obtain ⟨k, hk, rfl, HB, HA⟩ := hrel
        by_cases hlt : k < n
        · have hkh : k < hs.length := by rw [HN.out]; exact hlt
          have hkl : k < l.length := by rw [← HL.out]; exact hlt
          obtain ⟨c0, c1, c2⟩ := sh_cells ((HJ.out k _ (get!_some hkh)).on HB.out)
          have hsi := (HH.out.2 k _ _ (get!_some hkh) (get!_some hkl)).on HB.out
          generalize hs[k]! = hd at c0 c1 c2 hsi
          have hsc := sh_is hsi
          obtain ⟨pk, nk, ck, pv, nv, cv, rfl⟩ := sh_form hsi
          dsimp only at c0 c1 c2 hsc
          generalize hlk : l[k]! = s at *
          have HLK := hid hlk
          have HSC := hid hsc
          have HC0 : Hid (∀ x, Below wr.heap.size wr x → x.cell? ⟨b, o + k * 3, none⟩ = some (.string s.nm)) := fun x hx => cell_on c0 hx
          clear hsi hsc hlk
          cases hm : mayB s with
          | false =>
            go_wp2_with (first
              | (go_at_call 85; refine (one_is HSC.out hm).mono ?_; rintro e w1 ⟨rfl, hb1⟩))
            go_ret
            exact ⟨ret_int ((ok_may hkl (by rw [HLK.out]; exact hm)).symm.trans HR.out), below_on HB.out hb1⟩
          | true =>
            go_wp2_with (first
              | (go_at_call 85; refine (one_is HSC.out hm).mono ?_; rintro e w1 ⟨rfl, hb1⟩; have HB1 := hid hb1; clear hb1 c0 c1 c2))
            go_loopw [4] (fun i w2 => ∃ m : Nat, m ≤ k ∧ i = .int .i64 m ∧ Hid (Below wr.heap.size wr w2) ∧ Hid (∀ j, j < m → ¬ l[j]!.nm = s.nm)) (fun i _ => k - (intOf i).toNat)
            case atStart => exact ⟨0, by omega, rfl, HB1.out, fun j h => absurd h (Nat.not_lt_zero _)⟩
            case round =>
              rename_i w2
              obtain ⟨m, hmk, rfl, HB2, HA2⟩ := hrel
              by_cases hml : m < k
              · have hmn : m < n := by omega
                have hmh : m < hs.length := by rw [HN.out]; omega
                have hmll : m < l.length := by rw [← HL.out]; omega
                have d0 := (sh_cells ((HJ.out m _ (get!_some hmh)).on (below_on HB.out HB2.out))).c0
                rw [sh_nm4 HH.out hmh] at d0
                have e0 := HC0.out _ HB2.out
                have HMS : Hid (¬ l[m]!.nm = s.nm → ∀ j, j < m + 1 → ¬ l[j]!.nm = s.nm) := fun h j hj => by
                  by_cases e : j = m
                  · subst e; exact h
                  · exact HA2.out j (by omega)
                have HDU : Hid (l[m]!.nm = s.nm → checkS l = 50) := fun h => ok_dup hml hkl (by rw [HLK.out]; exact h)
                generalize l[m]!.nm = t at d0 HMS HDU
                have hq := bytes_beq t s.nm
                by_cases he : t = s.nm
                · have HE := hid he
                  rw [decide_eq_true he] at hq
                  clear he
                  go_wp2_with fail
                  go_quiet (fail)
                  go_wp2
                  go_ret
                  exact ⟨ret_int ((HDU.out HE.out).symm.trans HR.out), below_drewN (below_on HB.out HB2.out) _⟩
                · have HE := hid he
                  rw [decide_eq_false he] at hq
                  clear he
                  go_wp2_with fail
                  go_quiet (fail)
                  go_wp2
                  go_roundw
                  case rel => exact ⟨m + 1, by omega, by go_num, below_drewN HB2.out _, HMS.out HE.out⟩
                  case measure => simp [intOf]; omega
              · have hmk' : m = k := by omega
                subst hmk'
                go_wp2_with fail
                go_roundw
                case rel =>
                  refine ⟨m + 1, by omega, by go_num, below_on HB.out HB2.out, fun j h => ?_⟩
                  by_cases e : j = m
                  · subst e; rw [HLK.out]; exact ⟨hm, HA2.out⟩
                  · exact HA.out j (by omega)
                case measure => simp [intOf]; omega
        · have hks : k = n := by omega
          subst hks
          go_wp2
          go_ret
          refine ⟨ret_int ((ok_yes (by have := HL.out; omega) (fun j hj => ?_)).symm.trans HR.out), HB.out⟩
          obtain ⟨q1, q2⟩ := HA.out j (by rw [HL.out]; exact hj)
          exact ⟨q1, findS_hit hj rfl q2⟩
theorem rscheck_is {v : Value} {l : List Sc} {w : World} {r : Int} (hv : SchsAt w v l) (h : checkS l = r) : Calls Try.prog 40 #[v] w fun e w' => e = .returned (.int .i64 r) ∧ Below w.heap.size w w' := by rw [← h]; exact rscheck_any hv
end Go.Proofs.Ytjfholofgohcjaa
