/-
  The reference's dictionary in memory, and what its Find returns.
-/
import Derived.Test.YtnjeocjachmbkaaQXStay
namespace Go.Proofs.Ytnjeocjachmbkaa
open Go.RowKit Go.Sort Go.Maps Go.Shelf

structure Ry (B : Nat) (P : Nat → Prop) (w : World) (y : Nat) (most : Int) (sv : Value) (l : List Sm) : Prop where
  yB : B ≤ y
  blk : w.heap[y]? = some (.cells #[.int .i64 most, sv] 39)
  row : ∃ hs, Own Hd.cells 2 53 B w sv hs ∧ HeadsD P w hs l
theorem Ry.kp {B : Nat} {P T : Nat → Prop} {w w' : World} {y : Nat} {most : Int} {sv : Value} {l : List Sm} (h : Ry B P w y most sv l) (hk : Kp T w w') (hb : ¬ T y) (hv : ∀ g, sv.ownBlock = some g → ¬ T g) (ht : ∀ k, ty25 P w k → ¬ T k) : Ry B P w' y most sv l := by
  obtain ⟨hs, ho, hh⟩ := h.row
  exact ⟨h.yB, hk.blk h.blk hb, ⟨hs, own_kp ho hk hv, hh.kp hk ht⟩⟩
theorem Ry.on {B : Nat} {P : Nat → Prop} {w w' : World} {y : Nat} {most : Int} {sv : Value} {l : List Sm} (h : Ry B P w y most sv l) (hb : Below w.heap.size w w') : Ry B P w' y most sv l :=
  h.kp (T := fun _ => False) (Kp.of hb) id (fun _ _ => id) (fun _ _ => id)
theorem Ry.P {B : Nat} {P P' : Nat → Prop} {w : World} {y : Nat} {most : Int} {sv : Value} {l : List Sm} (h : Ry B P w y most sv l) (hp : ∀ k, k < w.heap.size → P k → P' k) : Ry B P' w y most sv l := by
  obtain ⟨hs, ho, hh⟩ := h.row
  exact ⟨h.yB, h.blk, ⟨hs, ho, hh.P hp⟩⟩
def Ty (y : Nat) (sv : Value) (k : Nat) : Prop := k = y ∨ sv.ownBlock = some k
theorem Ry.T_ge {B : Nat} {P : Nat → Prop} {w : World} {y : Nat} {most : Int} {sv : Value} {l : List Sm} (h : Ry B P w y most sv l) : ∀ k, Ty y sv k → B ≤ k := by
  obtain ⟨hs, ho, hh⟩ := h.row
  rintro k (rfl | hk)
  · exact h.yB
  · exact (own_at ho hk).1
theorem Ry.T_not {B : Nat} {P : Nat → Prop} {w : World} {y : Nat} {most : Int} {sv : Value} {l : List Sm} (h : Ry B P w y most sv l) {k : Nat} {cs : Array Value} {t : TypeId} {fz : Nat × Nat} (hk : w.heap[k]? = some (.cells cs t fz)) (h1 : t ≠ 39) (h2 : t ≠ 53) : ¬ Ty y sv k := by
  obtain ⟨hs, ho, hh⟩ := h.row
  rintro (rfl | hg)
  · rw [h.blk] at hk; cases hk; exact h1 rfl
  · obtain ⟨c, f, hc⟩ := own_kind ho hg
    rw [hc] at hk; cases hk; exact h2 rfl
theorem ry_sl {B : Nat} {P : Nat → Prop} {w : World} {y : Nat} {most : Int} {sv : Value} {l : List Sm} (h : Ry B P w y most sv l) (hlen : l.length ≤ 1000) :
    ∃ p c, sv = .slice p l.length c ∧ l.length ≤ c ∧ ∀ j s, l[j]? = some s → ∃ g o kp kc, p = some ⟨g, o, none⟩ ∧ w.cell? ⟨g, o + j * 2, none⟩ = some (.string s.nm) ∧ w.cell? ⟨g, o + j * 2 + 1, none⟩ = some (.slice kp (List.length s.ks) kc) ∧ RowIn (ty25 P w) w (.slice kp (List.length s.ks) kc) s.ks := by
  obtain ⟨hs, ho, hh⟩ := h.row
  obtain ⟨p, c, hv, hc, hm, hx⟩ := Own.sl ho hd_len (bs2 (by rw [hh.1]; exact hlen))
  refine ⟨p, c, by rw [hv, hh.1], by have := hc.1; rw [hh.1] at this; exact this, fun j s hj => ?_⟩
  have hjl : j < hs.length := by rw [hh.1]; exact (List.getElem?_eq_some_iff.1 hj).1
  obtain ⟨g, o, hp, -, hcell⟩ := hx (by intro e; subst e; simp at hjl)
  obtain ⟨hnm, hrow⟩ := hh.2 j _ _ (List.getElem?_eq_getElem hjl) hj
  obtain ⟨c0, c1⟩ := hd_at (hcell j _ (List.getElem?_eq_getElem hjl))
  obtain ⟨kp, kc, hk, hr⟩ := hrow
  rw [hnm] at c0
  rw [hk] at c1
  exact ⟨g, o, kp, kc, hp, c0, c1, kp, kc, rfl, hr⟩
theorem pos_first {s : Sm} : ∀ {l : List Sm} {k : Nat}, (∀ j, j < k → l[j]? ≠ some s) → l[k]? = some s → posS s l = k
  | [], _, _, h => by simp at h
  | y :: r, k, h1, h2 => by
    unfold posS
    cases k with
    | zero =>
      simp at h2
      rw [if_pos h2]
    | succ k =>
      rw [if_neg (fun e => h1 0 (by omega) (by simp [e])), pos_first (l := r) (k := k) (fun j hj => by simpa using h1 (j + 1) (by omega)) (by simpa using h2)]
theorem not_mem_of {s : Sm} {l : List Sm} (h : ∀ j, j < l.length → l[j]? ≠ some s) : s ∉ l := by
  intro hm
  obtain ⟨j, hj, e⟩ := List.getElem_of_mem hm
  exact h j hj (by rw [List.getElem?_eq_getElem hj, e])
theorem found_at {s : Sm} {l : List Sm} {k : Nat} (h1 : ∀ j, j < k → l[j]? ≠ some s) (h2 : l[k]? = some s) : findI l s = (k : Int) ∧ memS l s = true := by
  have hm := List.mem_of_getElem? h2
  unfold findI memS
  rw [if_pos hm, pos_first h1 h2]
  exact ⟨rfl, by simp [hm]⟩
theorem found_no {s : Sm} {l : List Sm} (h : ∀ j, j < l.length → l[j]? ≠ some s) : findI l s = 0 ∧ memS l s = false := by
  have hm := not_mem_of h
  unfold findI memS
  rw [if_neg hm]
  exact ⟨rfl, by simp [hm]⟩
theorem sm_eq {s t : Sm} {n : Nat} (h1 : t.nm = s.nm) (h2 : List.length t.ks = n) (h3 : List.length s.ks = n) (h : ∀ i, i < n → t.ks[i]? = s.ks[i]?) : t = s := by
  cases s; cases t
  simp at h1 h2 h3 h
  subst h1
  rw [rows_eqK h2 h3 h]
set_option maxRecDepth 100000 in
set_option maxHeartbeats 4000000 in
theorem rfind_any {B : Nat} {P : Nat → Prop} {w : World} {y : Nat} {most : Int} {sv v : Value} {l : List Sm} {s : Sm} (h : Ry B P w y most sv l) (hlen : l.length ≤ 1000) (hv : RowAt w v s.ks) :
    Calls Try.prog 17 #[dp y, .string s.nm, v] w fun e w' => e = .returned (.tuple #[.int .i64 (findI l s), .bool (memS l s)]) ∧ Below w.heap.size w w' := by
  have HBk := hid h.blk
  obtain ⟨p, c, rfl, hcap, hx⟩ := ry_sl h hlen
  have HX := hid hx
  have HV := hid hv
  obtain ⟨p', c', rfl, hcap', hmax', -⟩ := hv
  unfold maxLen at hmax'
  clear hx h
  generalize hn : l.length = n at *
  generalize hns : List.length s.ks = ns at *
  have HN := hid hn
  have HNS := hid hns
  clear hn hns
  generalize hfi : findI l s = fi
  generalize hme : memS l s = me
  have HFI := hid hfi
  have HME := hid hme
  clear hfi hme
  go_enter Try.func17, Try.ntmps17
  go_wp2
  go_loopw [8] (fun i wr => ∃ k : Nat, k ≤ n ∧ i = .int .i64 k ∧ Hid (∀ j, j < k → l[j]? ≠ some s) ∧ Hid (Below w.heap.size w wr)) (fun i _ => n - (intOf i).toNat)
  case atStart => exact ⟨0, by omega, rfl, (fun j hj => absurd hj (Nat.not_lt_zero _)), Below.refl _ _⟩
  case round =>
    obtain ⟨k, hk, rfl, HA, HB⟩ := hrel
    obtain ⟨W1, hW1⟩ : ∃ W, W = wr := ⟨wr, rfl⟩
    subst hW1
    have k0 := block_cell (block_on HBk.out HB.out)
    by_cases hlt : k < n
    · have hk' : k < l.length := by rw [HN.out]; exact hlt
      obtain ⟨t, ht⟩ : ∃ t, l[k]? = some t := ⟨l[k], List.getElem?_eq_getElem hk'⟩
      obtain ⟨g, o, kp, kc, rfl, c0, c1, hr⟩ := HX.out k t ht
      have d0 := cell_onB c0 HB.out
      have d1 := cell_onB c1 HB.out
      have HR := hid (hr.at.on HB.out)
      have HTk := hid ht
      clear c0 c1 hr ht
      generalize hnt : List.length t.ks = nt at *
      have HNT := hid hnt
      clear hnt
      have hr0 : (decide (t.nm = s.nm) && decide (nt = ns)) = true ∨ (decide (t.nm = s.nm) && decide (nt = ns)) = false := by cases (decide (t.nm = s.nm) && decide (nt = ns)) <;> simp
      generalize hrb : (decide (t.nm = s.nm) && decide (nt = ns)) = r0 at *
      have HRB := hid hrb
      clear hrb
      go_upto_region 4 with fail
      go_cut [9] from 11 to 70 (fun sm wx => sm = .bool r0 ∧ wx = W1)
      case first =>
        by_cases hnm : t.nm = s.nm
        · by_cases hl2 : nt = ns
          · have e0 : r0 = true := by rw [← HRB.out]; simp [hnm, hl2]
            rw [hnm] at d0
            subst e0 hl2
            go_wp2
            go_meet
            exact ⟨rfl, rfl⟩
          · have e0 : r0 = false := by rw [← HRB.out]; simp [hl2]
            have hl3 : ((nt : Int) == (ns : Int)) = false := by simp; omega
            rw [hnm] at d0
            subst e0
            go_wp2
            go_meet
            exact ⟨rfl, rfl⟩
        · have e0 : r0 = false := by rw [← HRB.out]; simp [hnm]
          have hne : (t.nm.toList == s.nm.toList) = false := by rw [bytes_beq]; simpa using hnm
          subst e0
          go_wp2
          go_meet
          exact ⟨rfl, rfl⟩
      case rest =>
        obtain ⟨hu9, hwc⟩ := hcut
        subst hu9
        replace hwc := hwc.symm
        subst hwc
        clear hr0
        go_wp2
        go_loopw [9, 10] (fun sm q w2 => ∃ (j : Nat) (r : Bool), j ≤ ns ∧ q = .int .i64 j ∧ sm = .bool r ∧ Hid (r = true → (t.nm = s.nm ∧ nt = ns) ∧ ∀ i, i < j → t.ks[i]? = s.ks[i]?) ∧ Hid (r = false → t ≠ s) ∧ Hid (Below W1.heap.size W1 w2)) (fun _ q _ => ns - (intOf q).toNat)
        case atStart =>
          refine ⟨0, r0, by omega, rfl, rfl, (fun hr => ⟨?_, fun i hi => absurd hi (Nat.not_lt_zero _)⟩), (fun hr e => ?_), Below.refl _ _⟩
          · have := HRB.out; rw [hr] at this; simpa using this
          · have h1 := HRB.out; rw [hr] at h1
            have h2 := HNT.out
            rw [e, HNS.out] at h2
            subst e
            simp [h2] at h1
        case round =>
          obtain ⟨j, r, hj, rfl, rfl, HT, HFs, HB2⟩ := hrel
          obtain ⟨w2, hw2⟩ : ∃ W, W = wr := ⟨wr, rfl⟩
          subst hw2
          have HW2 := hid (HB.out.trans (HB2.out.mono HB.out.size))
          have k2 := block_cell (block_on HBk.out HW2.out)
          clear k0
          cases r with
          | false =>
            have HNe := hid (HFs.out rfl)
            by_cases hjl : j < ns
            all_goals
              go_wp2
              go_roundw
              case rel =>
                refine ⟨k + 1, by omega, by go_num, fun i hi => ?_, HW2.out⟩
                by_cases e : i = k
                · subst e; rw [HTk.out]; exact fun h => HNe.out (Option.some.inj h)
                · exact HA.out i (by omega)
              case measure => simp [intOf]; omega
          | true =>
            obtain ⟨⟨hnm, hl2⟩, hpre⟩ := HT.out rfl
            have HPre := hid hpre
            have HNm := hid hnm
            subst hl2
            clear hnm hpre HT HFs
            by_cases hjl : j < nt
            · have hjt : j < List.length t.ks := by rw [HNT.out]; exact hjl
              have hjs : j < List.length s.ks := by rw [HNS.out]; exact hjl
              obtain ⟨x, hxj⟩ : ∃ x, t.ks[j]? = some x := ⟨t.ks[j], List.getElem?_eq_getElem hjt⟩
              obtain ⟨z, hzj⟩ : ∃ z, s.ks[j]? = some z := ⟨s.ks[j], List.getElem?_eq_getElem hjs⟩
              obtain ⟨gx, ox, hpx, x0, x1, x2, x3, x4, x5, x6, x7, x8, x9, x10⟩ := row_vals (HR.out.on HB2.out) hxj
              obtain ⟨gz, oz, hpz, z0, z1, z2, z3, z4, z5, z6, z7, z8, z9, z10⟩ := row_vals (HV.out.on HW2.out) hzj
              cases hpx
              cases hpz
              have e0 := cell_onB d0 HB2.out
              have e1 := cell_onB d1 HB2.out
              clear d0 d1
              have HXJ := hid hxj
              have HZJ := hid hzj
              clear hxj hzj
              have he := eqlL x z
              have HEq := hid (eqL_iff x z)
              generalize eqL x z = eb at *
              go_wp2_with fail
              go_quiet (fail)
              go_wp2
              go_roundw
              case rel =>
                refine ⟨j + 1, eb, by omega, by go_num, rfl, (fun hr => ⟨⟨HNm.out, by trivial⟩, fun i hi => ?_⟩), (fun hr e => ?_), below_drewN HB2.out _⟩
                · by_cases e : i = j
                  · subst e; rw [HXJ.out, HZJ.out, HEq.out.1 hr]
                  · exact HPre.out i (by omega)
                · have h1 := HXJ.out
                  rw [e, HZJ.out] at h1
                  have h2 := HEq.out.2 (Option.some.inj h1).symm
                  rw [hr] at h2; cases h2
              case measure => simp [intOf]; omega
            · have hjn : j = nt := by omega
              subst hjn
              have hts := sm_eq HNm.out HNT.out HNS.out HPre.out
              have h3 := HTk.out
              rw [hts] at h3
              obtain ⟨f1, f2⟩ := found_at HA.out h3
              rw [HFI.out] at f1
              rw [HME.out] at f2
              subst f1 f2
              clear hts h3
              go_wp2
              exact bodyPost_ret (v := .tuple #[.int .i64 (k : Int), .bool true]) (by simp [results, Try.results17, go_sem]) rfl ⟨rfl, HW2.out⟩
    · have hks : k = n := by omega
      subst hks
      obtain ⟨e1, e2⟩ := found_no (by rw [HN.out]; exact HA.out)
      rw [HFI.out] at e1
      rw [HME.out] at e2
      subst e1 e2
      go_wp2
      exact bodyPost_ret (v := .tuple #[.int .i64 0, .bool false]) (by simp [results, Try.results17, go_sem]) rfl ⟨rfl, HB.out⟩
end Go.Proofs.Ytnjeocjachmbkaa
