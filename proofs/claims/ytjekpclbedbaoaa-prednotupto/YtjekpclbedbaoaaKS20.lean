/-
  What the reference's sorted returns, for all rows: their headers in canonical order, in a slice of its own.
  append and a call, each as one step of a region that draws its order.
  Rows of one's own: their heads in a row of one's own, each row elsewhere.
-/
import Derived.Test.YtjekpclbedbaoaaKS14
import Derived.Test.YtjekpclbedbaoaaKS18
import Derived.Test.YtjekpclbedbaoaaKS19
import Derived.Deep.RegionLaw
namespace Go.Proofs.Ytjekpclbedbaoaa.TN
open Go.RowKit Go.Sort Go.Shelf

theorem one_cell {v : Value} (h : v.oneCell' = true) : ∀ y ∈ [v], ∀ c ∈ one y, c.oneCell' = true := by
  intro y hy c hc
  simp at hy; subst hy
  simp [one] at hc; subst hc
  exact h
theorem row_cell {Q : Nat → Prop} {w : World} {v : Value} {r : Rw} (h : RowIn Q w v r) : v.oneCell' = true := by
  obtain ⟨p, cap, rfl, -⟩ := h; rfl
theorem heads_cells {Q : Nat → Prop} {w : World} {hs : List Value} {rs : List Rw} (h : HeadsIn Q w hs rs) : ∀ y ∈ hs, ∀ c ∈ one y, c.oneCell' = true := by
  intro y hy c hc
  simp [one] at hc; subst hc
  obtain ⟨j, hj⟩ := List.getElem?_of_mem hy
  have hlt : j < rs.length := by rw [← h.1]; exact (List.getElem?_eq_some_iff.1 hj).1
  exact row_cell (h.2 j _ _ hj (get!_some hlt))
theorem HeadsIn.snoc' {Q : Nat → Prop} {w : World} {hs : List Value} {rs : List Rw} {h : Value} {r : Rw} (hh : HeadsIn Q w hs rs) (hr : RowIn Q w h r) : HeadsIn Q w (hs ++ [h]) (rs ++ [r]) := by
  refine ⟨by simp [hh.1], fun j x q h1 h2 => ?_⟩
  by_cases hlt : j < hs.length
  · rw [List.getElem?_append_left hlt] at h1
    rw [List.getElem?_append_left (by rw [← hh.1]; exact hlt)] at h2
    exact hh.2 j x q h1 h2
  · have hj : j = hs.length := by have := (List.getElem?_eq_some_iff.1 h1).1; simp at this; omega
    subst hj
    rw [List.getElem?_append_right (Nat.le_refl _)] at h1
    rw [hh.1, List.getElem?_append_right (Nat.le_refl _)] at h2
    simp at h1 h2
    subst h1 h2
    exact hr
theorem bound1 {n m : Nat} (h : n * bsz 1 ≤ 140737488355328) (hm : m ≤ n) : m * bsz 1 ≤ 140737488355328 := Nat.le_trans (Nat.mul_le_mul_right _ hm) h
theorem below_on2 {W w1 w2 : World} (h : Below W.heap.size W w1) (h2 : Below w1.heap.size w1 w2) : Below W.heap.size W w2 := below_on h h2
theorem sl_cell {Q : Nat → Prop} {w : World} {p : Option Addr} {n cap : Nat} {hs : List Value} {k : Nat} (h : SlAt Q one 1 w (.slice p n cap) hs) (hk : k < hs.length) : ∃ b o, p = some ⟨b, o, none⟩ ∧ w.cell? ⟨b, o + k, none⟩ = some hs[k]! := by
  obtain ⟨p', cap', hv, -, -, hx⟩ := h
  cases hv
  obtain ⟨b, o, hp, -, hj⟩ := hx (by intro e; subst e; simp at hk)
  exact ⟨b, o, hp, head_cell hj (get!_some hk)⟩
def Sorts (Q : Nat → Prop) (w : World) (v : Value) (rs : List Rw) : Prop := Calls Try.prog 35 #[v] w fun e w' => ∃ v' hs', e = .returned v' ∧ SlAt (fun b => w.heap.size ≤ b) one 1 w' v' hs' ∧ HeadsIn Q w' hs' (sortR rs) ∧ Below w.heap.size w w'
set_option maxHeartbeats 1000000 in
theorem sorted_short {Q : Nat → Prop} {v : Value} {hs : List Value} {rs : List Rw} {w : World} (hv : SlAt any one 1 w v hs) (hh : HeadsIn Q w hs rs) (hl : hs.length < 2) : Sorts Q w v rs := by
  unfold Sorts
  rw [sortR_short (by rw [← hh.1]; exact hl)]
  have HV := hid hv
  have HH := hid hh
  obtain ⟨p, cap, rfl, hcap, hmax, hx⟩ := hv
  clear hmax hx hh hcap
  generalize hn : hs.length = n at *
  have HN := hid hn
  clear hn
  go_enter Try.func35, Try.ntmps35
  go_wp2_with (at_builtin; refine app_any elem35 one_len (heads_cells HH.out) rfl _ _ rfl rfl (Own.made one 1 48 w.heap.size w (Nat.le_refl _)) rfl (SlAt.on HV.out ((Below.refl _ _).alloc (Nat.le_refl _) _)) (by simpa using SlAt.bound HV.out) (by simp) ?_; intro v' w1 hown hb1)
  have hb2 : Below w.heap.size w w1 := ((Below.refl _ _).alloc (Nat.le_refl _) _).trans hb1
  rw [List.nil_append] at hown
  go_ret
  exact ⟨_, hs, rfl, Own.sl hown one_len (SlAt.bound HV.out), HH.out.on hb2, hb2⟩
set_option maxHeartbeats 2000000 in
theorem sorted_long {Q : Nat → Prop} {p : Option Addr} {cap : Nat} {hs : List Value} {rs : List Rw} {w : World} (hv : SlAt any one 1 w (.slice p hs.length cap) hs) (hh : HeadsIn Q w hs rs) (hl : 2 ≤ hs.length)
    (ih : ∀ (w1 : World) (u : Value) (h1 : List Value) (r1 : List Rw), h1.length < hs.length → SlAt any one 1 w1 u h1 → HeadsIn Q w1 h1 r1 → Sorts Q w1 u r1) : Sorts Q w (.slice p hs.length cap) rs := by
  obtain ⟨h, hhd⟩ : ∃ h, hs.length / 2 = h := ⟨_, rfl⟩
  have hcap : hs.length ≤ cap ∧ hs.length ≤ maxLen := by
    obtain ⟨p', cap2, e, ⟨hcap, -⟩, hmx, -⟩ := id hv
    cases e
    exact ⟨hcap, hmx⟩
  obtain ⟨hcap, hmx⟩ := hcap
  have C1 : Hid (Sorts Q w (.slice p h cap) (rs.take h)) := ih w _ (hs.take h) (rs.take h) (by simp; omega) (hv.take h (by omega)) (hh.take h)
  have C2 : Hid (∀ W, Below w.heap.size w W → Sorts Q W (.slice (Option.map (fun x => x.add h) p) (hs.length - h) (cap - h)) (rs.drop h)) := fun W hb => by
    have hd := hv.drop rfl h (by omega)
    rw [if_neg (by omega)] at hd
    exact ih W _ (hs.drop h) (rs.drop h) (by simp; omega) (hd.on hb) ((hh.drop h).on hb)
  have HRS : Hid (mergeR (sortR (rs.take h)) (sortR (rs.drop h)) = sortR rs) := by rw [mergeR_sort, List.take_append_drop]; exact rfl
  have HBD := hid (SlAt.bound hv)
  have hla : (sortR (rs.take h)).length = h := by rw [sortR_length, List.length_take, ← hh.1]; omega
  have hlb : (sortR (rs.drop h)).length = hs.length - h := by rw [sortR_length, List.length_drop, ← hh.1]
  unfold Sorts at C1 C2 ⊢
  clear ih hv
  generalize sortR (rs.take h) = A at *
  generalize sortR (rs.drop h) = B at *
  generalize sortR rs = R at *
  clear hh
  generalize hs.length = n at *
  unfold maxLen at hmx
  have hq : (n : Int) / 2 = (h : Int) := by omega
  have hhn : h ≤ n := by omega
  have hh0 : 0 < h := by omega
  have HLA := hid hla
  have HLB := hid hlb
  generalize hm : n - h = m at *
  clear hla hlb hhd
  have M1 : Hid True := trivial
  have M2 : Hid True := trivial
  go_enter Try.func35, Try.ntmps35
  go_wp2_with (first
    | (go_at_call 35; clear M1; refine C1.out.mono ?_; rintro e w1 ⟨v1, ha, rfl, hs1, hh1, hb1⟩; have HS1 := hid hs1; have HH1 := hid hh1; have HB1 := hid hb1; obtain ⟨pa, capa, rfl, -⟩ := hs1; rw [show ha.length = h by rw [HH1.out.1, HLA.out]] at HS1 ⊢; clear hh1 hb1)
    | (go_at_call 35; clear M2; refine (C2.out _ HB1.out).mono ?_; rintro e w2 ⟨v2, hb, rfl, hs2, hh2, hb2⟩; have HS2 := hid hs2; have HH2 := hid hh2; have HB2 := hid hb2; obtain ⟨pb, capb, rfl, -⟩ := hs2; rw [show hb.length = m by rw [HH2.out.1, HLB.out]] at HS2 ⊢; clear hh2 hb2))
  have HSA := hid (HS1.out.on HB2.out)
  have HHA := hid (HH1.out.on HB2.out)
  have HBD' : h + m = n := by omega
  clear C1 C2 HS1 HH1
  go_loopw [5, 6, 7] (fun o i k wr => ∃ (i' k' : Nat) (oh : List Value) (acc : List Rw), i' ≤ h ∧ k' ≤ m ∧ i = .int .i64 i' ∧ k = .int .i64 k' ∧ oh.length = i' + k' ∧ Hid (Own one 1 48 w2.heap.size wr o oh) ∧ Hid (HeadsIn Q w2 oh acc) ∧ Hid (acc ++ mergeR (A.drop i') (B.drop k') = R) ∧ Hid (Below w2.heap.size w2 wr)) (fun _ i k _ => (h + m) - ((intOf i).toNat + (intOf k).toNat))
  case atStart => exact ⟨0, 0, [], [], by omega, by omega, rfl, rfl, rfl, Own.nil _ _ _ _ _, ⟨rfl, fun j x r h1 _ => by simp at h1⟩, HRS.out, Below.refl _ _⟩
  case round =>
    obtain ⟨i', k', oh, acc, hi, hk, rfl, rfl, hlen, HO, KO, HM, HB⟩ := hrel
    by_cases hlt : i' < h
    · have hia : i' < ha.length := by rw [HHA.out.1, HLA.out]; exact hlt
      have hiA : i' < A.length := by rw [HLA.out]; exact hlt
      obtain ⟨ba, oa, rfl, hja⟩ := sl_cell HSA.out hia
      have HRA := hid (HHA.out.2 i' _ _ (get!_some hia) (get!_some hiA))
      have HCA := hid (cell_on hja HB.out)
      have HLe := hid (fun hk => mergeR_left (a := A) (b := B) (i := i') (k := k') hiA hk)
      have HLt := hid (fun hk h => mergeR_le (a := A) (b := B) (i := i') (k := k') hiA hk h)
      have HGt := hid (fun hk h => mergeR_gt (a := A) (b := B) (i := i') (k := k') hiA hk h)
      generalize ha[i']! = hda at *
      generalize A[i']! = ra at *
      clear hja
      by_cases hlk : k' < m
      · have hkb : k' < hb.length := by rw [HH2.out.1, HLB.out]; exact hlk
        have hkB : k' < B.length := by rw [HLB.out]; exact hlk
        obtain ⟨bb, ob, rfl, hjb⟩ := sl_cell HS2.out hkb
        have HRB := hid (HH2.out.2 k' _ _ (get!_some hkb) (get!_some hkB))
        have HCB := hid (cell_on hjb HB.out)
        generalize hb[k']! = hdb at *
        generalize B[k']! = rb at *
        clear hjb
        have e1 : ((k' : Int) == (m : Int)) = false := by rw [Bool.eq_false_iff]; intro e; have := beq_iff_eq.1 e; omega
        have ca := regrown_cell HCA.out
        have cb := regrown_cell HCB.out
        have HRA' : ∀ d os, Hid (RowAt (grow (redrawn wr d) os) hda ra) := fun d os => (HRA.out.on (below_on2 HB.out (below_regrown wr d os))).at
        have HRB' : ∀ d os, Hid (RowAt (grow (redrawn wr d) os) hdb rb) := fun d os => (HRB.out.on (below_on2 HB.out (below_regrown wr d os))).at
        by_cases hc : cmpR ra rb ≤ 0
        · obtain ⟨c, hcv⟩ : ∃ c, cmpR ra rb = c := ⟨_, rfl⟩
          have HCV := hid hcv
          have hc0 : decide (c ≤ 0) = true := by rw [← hcv]; exact decide_eq_true hc
          have HCC := hid hc
          clear hcv hc
          go_wp2_with fail
          refine wp_region_quiet_below (by kernel_rfl) (by kernel_rfl) ?_
          repeat (go_big_quiet_step (first | (go_at_call 25; exact Calls.regrown_of (rrow_is (HRA' _ _).out (HRB' _ _).out HCV.out))))
          refine wpQuiet_nil ?_
          intro _ hw'
          obtain ⟨⟨dq, osq⟩, hw''⟩ := hw'
          subst hw''
          have HBW := hid (HB.out.trans ((below_regrown wr dq osq).mono HB.out.size))
          have HOW := hid (Own.on HO.out (below_regrown wr dq osq))
          have cw := cell_on HCA.out (below_regrown wr dq osq)
          clear ca cb HRA' HRB'
          generalize grow (redrawn wr dq) osq = W at *
          obtain ⟨px, capx, rfl, -⟩ := id HRA.out
          go_wp2_with (at_builtin; refine app_any elem35 one_len (ys := [.slice px ra.length capx]) (one_cell (row_cell HRA.out)) rfl _ _ rfl rfl (Own.on HOW.out ((Below.refl _ _).alloc (Nat.le_refl _) _)) rfl (lit_sl (alloc_block _ _) one_len rfl rfl (Nat.le_refl _) (by simp)) (bound1 HBD.out (by simp; omega)) (Nat.le_trans HBW.out.size (by simp)) ?_; intro v' w3 hown hb3)
          go_roundw
          case rel =>
            refine ⟨i' + 1, k', oh ++ [_], acc ++ [ra], by omega, by omega, by go_num, rfl, by simp; omega, hown, KO.out.snoc' HRA.out, ?_, (HBW.out.alloc HBW.out.size _).trans hb3⟩
            have hx := HLt.out hkB HCC.out
            rw [← HM.out, hx, List.append_assoc]; rfl
          case measure => simp [intOf]; omega
        · obtain ⟨c, hcv⟩ : ∃ c, cmpR ra rb = c := ⟨_, rfl⟩
          have HCV := hid hcv
          have hc0 : decide (c ≤ 0) = false := by rw [← hcv]; exact decide_eq_false hc
          have HCC := hid hc
          clear hcv hc
          go_wp2_with fail
          refine wp_region_quiet_below (by kernel_rfl) (by kernel_rfl) ?_
          repeat (go_big_quiet_step (first | (go_at_call 25; exact Calls.regrown_of (rrow_is (HRA' _ _).out (HRB' _ _).out HCV.out))))
          refine wpQuiet_nil ?_
          intro _ hw'
          obtain ⟨⟨dq, osq⟩, hw''⟩ := hw'
          subst hw''
          have HBW := hid (HB.out.trans ((below_regrown wr dq osq).mono HB.out.size))
          have HOW := hid (Own.on HO.out (below_regrown wr dq osq))
          have cw := cell_on HCB.out (below_regrown wr dq osq)
          clear ca cb HRA' HRB'
          generalize grow (redrawn wr dq) osq = W at *
          obtain ⟨px, capx, rfl, -⟩ := id HRB.out
          go_wp2_with (at_builtin; refine app_any elem35 one_len (ys := [.slice px rb.length capx]) (one_cell (row_cell HRB.out)) rfl _ _ rfl rfl (Own.on HOW.out ((Below.refl _ _).alloc (Nat.le_refl _) _)) rfl (lit_sl (alloc_block _ _) one_len rfl rfl (Nat.le_refl _) (by simp)) (bound1 HBD.out (by simp; omega)) (Nat.le_trans HBW.out.size (by simp)) ?_; intro v' w3 hown hb3)
          go_roundw
          case rel =>
            refine ⟨i', k' + 1, oh ++ [_], acc ++ [rb], by omega, by omega, rfl, by go_num, by simp; omega, hown, KO.out.snoc' HRB.out, ?_, (HBW.out.alloc HBW.out.size _).trans hb3⟩
            have hx := HGt.out hkB HCC.out
            rw [← HM.out, hx, List.append_assoc]; rfl
          case measure => simp [intOf]; omega
      · have hkm : k' = m := by omega
        subst hkm
        go_wp2_with fail
        refine wp_region_quiet_below (by kernel_rfl) (by kernel_rfl) ?_
        repeat (go_big_quiet_step (first | fail))
        refine wpQuiet_nil ?_
        intro _ hw'
        obtain ⟨⟨dq, osq⟩, hw''⟩ := hw'
        subst hw''
        have HBW := hid (HB.out.trans ((below_regrown wr dq osq).mono HB.out.size))
        have HOW := hid (Own.on HO.out (below_regrown wr dq osq))
        have cw := cell_on HCA.out (below_regrown wr dq osq)
        generalize grow (redrawn wr dq) osq = W at *
        obtain ⟨px, capx, rfl, -⟩ := id HRA.out
        go_wp2_with (at_builtin; refine app_any elem35 one_len (ys := [.slice px ra.length capx]) (one_cell (row_cell HRA.out)) rfl _ _ rfl rfl (Own.on HOW.out ((Below.refl _ _).alloc (Nat.le_refl _) _)) rfl (lit_sl (alloc_block _ _) one_len rfl rfl (Nat.le_refl _) (by simp)) (bound1 HBD.out (by simp; omega)) (Nat.le_trans HBW.out.size (by simp)) ?_; intro v' w3 hown hb3)
        go_roundw
        case rel =>
          refine ⟨i' + 1, k', oh ++ [_], acc ++ [ra], by omega, by omega, by go_num, rfl, by simp; omega, hown, KO.out.snoc' HRA.out, ?_, (HBW.out.alloc HBW.out.size _).trans hb3⟩
          have hx := HLe.out (by rw [HLB.out]; exact Nat.le_refl _)
          rw [← HM.out, hx, List.append_assoc]; rfl
        case measure => simp [intOf]; omega
    · have hih : i' = h := by omega
      subst hih
      by_cases hlk : k' < m
      · have hkb : k' < hb.length := by rw [HH2.out.1, HLB.out]; exact hlk
        have hkB : k' < B.length := by rw [HLB.out]; exact hlk
        obtain ⟨bb, ob, rfl, hjb⟩ := sl_cell HS2.out hkb
        have HRB := hid (HH2.out.2 k' _ _ (get!_some hkb) (get!_some hkB))
        have HCB := hid (cell_on hjb HB.out)
        have HRt := hid (fun hi => mergeR_right (a := A) (b := B) (i := i') (k := k') hi hkB)
        generalize hb[k']! = hdb at *
        generalize B[k']! = rb at *
        clear hjb
        have e1 : ((k' : Int) == (m : Int)) = false := by rw [Bool.eq_false_iff]; intro e; have := beq_iff_eq.1 e; omega
        go_wp2_with fail
        refine wp_region_quiet_below (by kernel_rfl) (by kernel_rfl) ?_
        repeat (go_big_quiet_step (first | fail))
        refine wpQuiet_nil ?_
        intro _ hw'
        obtain ⟨⟨dq, osq⟩, hw''⟩ := hw'
        subst hw''
        have HBW := hid (HB.out.trans ((below_regrown wr dq osq).mono HB.out.size))
        have HOW := hid (Own.on HO.out (below_regrown wr dq osq))
        have cw := cell_on HCB.out (below_regrown wr dq osq)
        generalize grow (redrawn wr dq) osq = W at *
        obtain ⟨px, capx, rfl, -⟩ := id HRB.out
        go_wp2_with (at_builtin; refine app_any elem35 one_len (ys := [.slice px rb.length capx]) (one_cell (row_cell HRB.out)) rfl _ _ rfl rfl (Own.on HOW.out ((Below.refl _ _).alloc (Nat.le_refl _) _)) rfl (lit_sl (alloc_block _ _) one_len rfl rfl (Nat.le_refl _) (by simp)) (bound1 HBD.out (by simp; omega)) (Nat.le_trans HBW.out.size (by simp)) ?_; intro v' w3 hown hb3)
        go_roundw
        case rel =>
          refine ⟨i', k' + 1, oh ++ [_], acc ++ [rb], by omega, by omega, rfl, by go_num, by simp; omega, hown, KO.out.snoc' HRB.out, ?_, (HBW.out.alloc HBW.out.size _).trans hb3⟩
          have hx := HRt.out (by rw [HLA.out]; exact Nat.le_refl _)
          rw [← HM.out, hx, List.append_assoc]; rfl
        case measure => simp [intOf]; omega
      · have hkm : k' = m := by omega
        subst hkm
        go_wp2
        go_ret
        have he : acc = R := by
          have := HM.out
          rw [List.drop_eq_nil_of_le (by rw [HLA.out]; exact Nat.le_refl _), List.drop_eq_nil_of_le (by rw [HLB.out]; exact Nat.le_refl _)] at this
          rw [← this]; simp [mergeR]
        subst he
        have hsz : w.heap.size ≤ w2.heap.size := Nat.le_trans HB1.out.size HB2.out.size
        exact ⟨_, oh, rfl, (Own.sl HO.out one_len (bound1 HBD.out (by omega))).imp (fun b hb => Nat.le_trans hsz hb), KO.out.on HB.out, (below_on HB1.out HB2.out).trans (HB.out.mono hsz)⟩
theorem sorted_any {Q : Nat → Prop} : ∀ (n : Nat) {v : Value} {hs : List Value} {rs : List Rw} {w : World}, hs.length ≤ n → SlAt any one 1 w v hs → HeadsIn Q w hs rs → Sorts Q w v rs := by
  intro n
  induction n with
  | zero => intro v hs rs w hn hv hh; exact sorted_short hv hh (by omega)
  | succ n ih =>
    intro v hs rs w hn hv hh
    by_cases hl : hs.length < 2
    · exact sorted_short hv hh hl
    · obtain ⟨p, cap, rfl, h1, h2, h3⟩ := hv
      exact sorted_long ⟨p, cap, rfl, h1, h2, h3⟩ hh (by omega) (fun w1 u h1 r1 hlt hs1 hh1 => ih (by omega) hs1 hh1)
end Go.Proofs.Ytjekpclbedbaoaa.TN
namespace Go.Proofs.Ytjekpclbedbaoaa.TN
open Go.RowKit Go.Sort Go.Shelf

theorem step_app {ops : Array Oper} {o : Oper} {a : Act} {w : World} {K : Act → World → Prop} {Q : Exit → Act → World → Prop} {E : Prop} {α : Type} {enc : α → List Value} {k e t B : Nat} {Qb : Nat → Prop} {xs ys : List α} {v u : Value}
    (hE : Elem t e k) (hk : ∀ x, (enc x).length = k) (h1 : ∀ y ∈ ys, ∀ c ∈ enc y, c.oneCell' = true) (hgd : o.guard = none) (s x : Operand) (ho : o.op = .call { callee := .builtin .append, args := #[s, x], argTypes := #[t, t] })
    (hs : a.eval s = v) (hx : a.eval x = u) (hown : Own enc k e B w v xs) (hu : SlAt Qb enc k w u ys) (hb : (xs.length + ys.length) * bsz k ≤ 140737488355328) (hB : B ≤ w.heap.size)
    (h : ∀ v' w', Own enc k e B w' v' (xs ++ ys) → Below B w w' → w.grownBy w' v.ownBlock → K (a.put o.dst v') w') : if Region.wanted o (yielded ops a.tmps) = true then Oper.wp Try.prog o a w K Q else E := by
  have hw : Region.wanted o (yielded ops a.tmps) = true := by simp [Region.wanted, hgd]
  rw [if_pos hw]
  obtain ⟨ht, hkp, i0, z, hi, hz0, hz1, hz2, hzs⟩ := hE
  obtain ⟨p, cap, rfl, ⟨hcap, hnone⟩, hmax, hy⟩ := hu
  cases p with
  | none =>
    have hn : ys = [] := by
      cases ys with
      | nil => rfl
      | cons y r => obtain ⟨b, o, hp, _⟩ := hy (by simp); cases hp
    subst hn
    have hc := hnone rfl
    subst hc
    have hrun := run_append_owned_none (P := Try.prog) (w := w) B t o.type e i0 k ht hi v xs.length _ hown
    have hx' : a.eval x = .slice none 0 0 := by rw [hx]; rfl
    unfold Oper.wp
    simp [execOp, ho, resolve, invoke, builtin, hs, hx', hrun, Result.andThen]
    exact h v w (by rw [List.append_nil]; exact hown) (Below.refl _ _) ⟨rfl, rfl, rfl, Nat.le_refl _, fun _ _ _ => rfl⟩
  | some ad =>
    refine wp_append_own w s x t ho B e i0 z k i0.bytes ht hi hz0 hz1 rfl hzs hkp v xs.length _ hs hown ad ys.length cap (ys.flatMap enc) hx (flat_length hk ys) ?_ ?_ ?_ (Nat.le_trans (Nat.mul_le_mul_left _ hz2) hb) hB ?_
    · intro j c hj
      have hne : ys ≠ [] := by intro e; subst e; simp at hj
      obtain ⟨b, o, hp, _, hcell⟩ := hy hne
      have hp' : ad = ⟨b, o, none⟩ := Option.some.inj hp
      rw [hp', Addr.add_lit]
      exact flat_cells hk ys o hcell j c hj
    · intro c hc
      obtain ⟨y, hy', hcy⟩ := List.mem_flatMap.1 hc
      exact h1 y hy' c hcy
    · unfold maxLen; unfold bsz at hb; split at hb <;> omega
    · intro v' w' h2 h3 _
      refine h v' w' ?_ ((Below.refl B w).grown h3 hB (fun j e => (hown.lt j e))) h3
      show w'.ownsRow B e k v' (xs ++ ys).length ((xs ++ ys).flatMap enc)
      rw [List.length_append, List.flatMap_append]; exact h2
theorem step_call {ops : Array Oper} {o : Oper} {a : Act} {w : World} {K : Act → World → Prop} {Q : Exit → Act → World → Prop} {E : Prop} {f : FuncId} {v : Value} (hgd : o.guard = none) (x : Operand) (t : TypeId)
    (ho : o.op = .call { callee := .value (.func f), args := #[x], argTypes := #[t] }) (hx : a.eval x = v) (hen : ∀ args w, (callFunc f args).run Try.prog w = .ok (.enter f args) w)
    (hc : Calls Try.prog f #[v] w fun e w' => ∃ u, e = .returned u ∧ K (a.put o.dst u) w') : if Region.wanted o (yielded ops a.tmps) = true then Oper.wp Try.prog o a w K Q else E := by
  have hw : Region.wanted o (yielded ops a.tmps) = true := by simp [Region.wanted, hgd]
  rw [if_pos hw]
  unfold Oper.wp
  have hr : (execOp a.eval o).run Try.prog w = .ok (.enter f #[v]) w := by
    simp [execOp, ho, resolve, invoke, hen, go_sem]
    rw [← hx]
    cases x <;> simp [Act.eval]
  rw [hr, Oper.upon_enter]
  refine hc.mono ?_
  rintro e w' ⟨u, rfl, hk⟩
  exact hk
theorem SlAt.grown {α : Type} {Q : Nat → Prop} {enc : α → List Value} {k : Nat} {w w' : World} {v : Value} {xs : List α} {row : Option Nat} (h : SlAt Q enc k w v xs) (hk : 0 < k) (hen : ∀ x, (enc x).length = k) (hg : w.grownBy w' row) (hne : ∀ b, Q b → b < w.heap.size → some b ≠ row) : SlAt Q enc k w' v xs := by
  obtain ⟨p, cap, hv, hc, hm, hx⟩ := h
  refine ⟨p, cap, hv, hc, hm, fun hn => ?_⟩
  obtain ⟨b, o, hp, hQ, hj⟩ := hx hn
  have hb0 : b < w.heap.size := by
    cases xs with
    | nil => exact absurd rfl hn
    | cons x r =>
      have hl : (enc x)[0]? = some ((enc x)[0]'(by rw [hen]; exact hk)) := List.getElem?_eq_getElem _
      exact block_lt_of_cell (hj 0 x rfl 0 _ hl)
  have hb : w'.heap[b]? = w.heap[b]? := hg.block b hb0 (hne b hQ.1 hb0)
  exact ⟨b, o, hp, hQ, fun j x hjx i u hu => (World.cell?_of_block (a := ⟨b, o + j * k + i, none⟩) hb).trans (hj j x hjx i u hu)⟩
theorem SlAt.low {α : Type} {Q : Nat → Prop} {enc : α → List Value} {k : Nat} {w : World} {v : Value} {xs : List α} (h : SlAt Q enc k w v xs) (hk : 0 < k) (hen : ∀ x, (enc x).length = k) : SlAt (fun b => Q b ∧ b < w.heap.size) enc k w v xs := by
  obtain ⟨p, cap, hv, hc, hm, hx⟩ := h
  refine ⟨p, cap, hv, hc, hm, fun hn => ?_⟩
  obtain ⟨b, o, hp, hQ, hj⟩ := hx hn
  have hb0 : b < w.heap.size := by
    cases xs with
    | nil => exact absurd rfl hn
    | cons x r =>
      have hl : (enc x)[0]? = some ((enc x)[0]'(by rw [hen]; exact hk)) := List.getElem?_eq_getElem _
      exact block_lt_of_cell (hj 0 x rfl 0 _ hl)
  exact ⟨b, o, hp, ⟨⟨hQ.1, hb0⟩, hQ.2⟩, hj⟩
theorem SlAt.onB {α : Type} {Q : Nat → Prop} {enc : α → List Value} {k B : Nat} {w w' : World} {v : Value} {xs : List α} (h : SlAt Q enc k w v xs) (hb : Below B w w') (hq : ∀ b, Q b → b < B) : SlAt Q enc k w' v xs := by
  obtain ⟨p, cap, hv, hc, hm, hx⟩ := h
  refine ⟨p, cap, hv, hc, hm, fun hn => ?_⟩
  obtain ⟨b, o, hp, hQ, hj⟩ := hx hn
  exact ⟨b, o, hp, hQ, fun j x hjx i u hu => (hb.cell (p := ⟨b, o + j * k + i, none⟩) (hq b hQ.1)).trans (hj j x hjx i u hu)⟩
theorem HeadsIn.onB {Q : Nat → Prop} {B : Nat} {w w' : World} {hs : List Value} {rs : List Rw} (h : HeadsIn Q w hs rs) (hb : Below B w w') (hq : ∀ b, Q b → b < B) : HeadsIn Q w' hs rs := ⟨h.1, fun j x r h1 h2 => SlAt.onB (h.2 j x r h1 h2) hb hq⟩
theorem enters38 : ∀ args w, (callFunc 35 args).run Try.prog w = .ok (.enter 35 args) w := enters_of Try.func35 (by kernel_rfl) rfl
end Go.Proofs.Ytjekpclbedbaoaa.TN
namespace Go.Proofs.Ytjekpclbedbaoaa.PD
open Go.RowKit Go.Joins

theorem tnSl_kp {α : Type} {Q T : Nat → Prop} {enc : α → List Value} {k : Nat} {w w' : World} {v : Value} {xs : List α} (h : TN.SlAt Q enc k w v xs) (hk : Kp T w w') (ht : ∀ b, Q b → ¬ T b) : TN.SlAt Q enc k w' v xs := by
  obtain ⟨p, cap, hv, hc, hm, hx⟩ := h
  exact ⟨p, cap, hv, hc, hm, fun hne => let ⟨b, o, hp, hQ, hj⟩ := hx hne; ⟨b, o, hp, hQ, fun j x hjx i u hu => hk.cell (hj j x hjx i u hu) (ht b hQ.1)⟩⟩
theorem elem_row : ElemN 23 48 1 24 := by
  obtain ⟨i, hi, h0, h1, h2⟩ := info_parts TN.info35
  exact ⟨Try.underlying23, by omega, i, _, hi, h0, h1, Nat.le_of_eq h2, rfl⟩
/- Rows of one's own: their heads in a row of one's own, each row elsewhere. -/
structure Rws (B : Nat) (w : World) (v : Value) (hs : List Value) (rs : List TN.Rw) : Prop where
  own : Own TN.one 1 48 B w v hs
  len : hs.length = rs.length
  row : ∀ (j : Nat) h r, hs[j]? = some h → rs[j]? = some r → TN.RowIn (fun b => B ≤ b ∧ b < w.heap.size ∧ v.ownBlock ≠ some b) w h r
theorem rowIn_kpT {Q T : Nat → Prop} {w w' : World} {v : Value} {r : TN.Rw} (h : TN.RowIn Q w v r) (hk : Kp T w w') (ht : ∀ b, Q b → ¬ T b) : TN.RowIn Q w' v r := tnSl_kp h hk ht
theorem Rws.kp {B : Nat} {w w' : World} {v : Value} {hs : List Value} {rs : List TN.Rw} {T : Nat → Prop} (h : Rws B w v hs rs) (hk : Kp T w w') (hT : ∀ b, T b → b < B) : Rws B w' v hs rs :=
  ⟨h.own.kp hk (fun g hg e => by have := (h.own.at hg).1; have := hT g e; omega), h.len, fun j x r h1 h2 => (rowIn_kpT (h.row j x r h1 h2) hk (fun b hb e => by have := hT b e; omega)).imp (fun b hb => ⟨hb.1, by have := hk.size; omega, hb.2.2⟩)⟩
theorem Rws.on {B : Nat} {w w' : World} {v : Value} {hs : List Value} {rs : List TN.Rw} (h : Rws B w v hs rs) (hb : Below w.heap.size w w') : Rws B w' v hs rs := h.kp (T := fun _ => False) (Kp.of hb) (fun _ e => e.elim)
theorem Rws.app {B : Nat} {w w' : World} {v v' x : Value} {hs : List Value} {rs : List TN.Rw} {r : TN.Rw} (h : Rws B w v hs rs) (hx : TN.RowIn (fun b => B ≤ b ∧ b < w.heap.size ∧ v.ownBlock ≠ some b) w x r) (ho : Own TN.one 1 48 B w' v' (hs ++ [x])) (hg : w.grownBy w' v.ownBlock) (ha : At w v v') : Rws B w' v' (hs ++ [x]) (rs ++ [r]) := by
  have hk : Kp (fun b => v.ownBlock = some b) w w' := Kp.grown hg (fun b e => e)
  have key : ∀ {y : Value} {r : TN.Rw}, TN.RowIn (fun b => B ≤ b ∧ b < w.heap.size ∧ v.ownBlock ≠ some b) w y r → TN.RowIn (fun b => B ≤ b ∧ b < w'.heap.size ∧ v'.ownBlock ≠ some b) w' y r := fun hy => (rowIn_kpT hy hk (fun b hb e => hb.2.2 e)).imp (fun b hb => ⟨hb.1, by have := hk.size; omega, fun e => by rcases ha b e with e' | e'; exact hb.2.2 e'; omega⟩)
  refine ⟨ho, by rw [List.length_append, List.length_append, h.len]; rfl, fun j y r' h1 h2 => ?_⟩
  rcases Nat.lt_or_ge j hs.length with hj | hj
  · rw [List.getElem?_append_left hj] at h1
    rw [List.getElem?_append_left (by rw [← h.len]; exact hj)] at h2
    exact key (h.row j y r' h1 h2)
  · rw [List.getElem?_append_right hj] at h1
    rw [List.getElem?_append_right (by rw [← h.len]; exact hj), ← h.len] at h2
    cases e : j - hs.length with
    | zero =>
      rw [e] at h1 h2
      simp only [List.getElem?_cons_zero, Option.some.injEq] at h1 h2
      subst h1 h2
      exact key hx
    | succ m => rw [e] at h1; simp at h1
theorem Rws.nil (B : Nat) (w : World) : Rws B w (.slice none 0 0) [] [] := ⟨Own.nil _ _ _ _ _, rfl, fun j h r h1 => by simp at h1⟩
theorem Rws.le {B B' : Nat} {w : World} {v : Value} {hs : List Value} {rs : List TN.Rw} (h : Rws B w v hs rs) (hb : B' ≤ B) : Rws B' w v hs rs :=
  ⟨h.own.le hb, h.len, fun j x r h1 h2 => (h.row j x r h1 h2).imp (fun b hb' => ⟨by omega, hb'.2.1, hb'.2.2⟩)⟩

end Go.Proofs.Ytjekpclbedbaoaa.PD
