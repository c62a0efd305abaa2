/-
  What the statements' cut (the first rows of a table) returns.
  What the reference's sorted returns, for all rows: their headers in canonical order, in a slice of its own.
  append and a call, each as one step of a region that draws its order.
  What the statements' small (a table of columns k and n) returns.
-/
import Derived.Test.YtlbjbkhcnafhcaaGreatP25RCheck
import Derived.Test.YtlbjbkhcnafhcaaGreatP42Concat
import Derived.Test.YtlbjbkhcnafhcaaGreatP23Places
import Derived.Deep.RegionLaw
import Derived.Lib.OwnKind
namespace Go.Proofs.YtlbjbkhcnafhcaaGreat
open Go.RowKit Go.Sort Go.Shelf

theorem SlAt.take {α : Type} {Q : Nat → Prop} {enc : α → List Value} {k : Nat} {w : World} {p : Option Addr} {n cap : Nat} {xs : List α} (h : SlAt Q enc k w (.slice p n cap) xs) (m : Nat) (hm : m ≤ n) : SlAt Q enc k w (.slice p m cap) (xs.take m) := by
  obtain ⟨p', cap', hv, ⟨hc, hno⟩, hmx, hx⟩ := h
  cases hv
  have hl : (xs.take m).length = m := by simp; omega
  refine ⟨p, cap, by rw [hl], ⟨by omega, hno⟩, by omega, fun hne => ?_⟩
  obtain ⟨b, o, hp, hQ, hj⟩ := hx (by intro e; subst e; simp at hne)
  refine ⟨b, o, hp, ⟨hQ.1, Nat.le_trans (Nat.mul_le_mul_right _ (by omega)) hQ.2⟩, fun j x hjx => hj j x ?_⟩
  have hlt : j < m := by have := (List.getElem?_eq_some_iff.1 hjx).1; omega
  rwa [List.getElem?_take_of_lt hlt] at hjx
theorem HeadsIn.take {Q : Nat → Prop} {w : World} {hs : List Value} {rs : List Rw} (h : HeadsIn Q w hs rs) (m : Nat) : HeadsIn Q w (hs.take m) (rs.take m) := by
  refine ⟨by rw [List.length_take, List.length_take, h.1], fun j x r h1 h2 => ?_⟩
  have hlt : j < m := by have := (List.getElem?_eq_some_iff.1 h1).1; simp at this; omega
  rw [List.getElem?_take_of_lt hlt] at h1 h2
  exact h.2 j x r h1 h2
end Go.Proofs.YtlbjbkhcnafhcaaGreat
namespace Go.Proofs.YtlbjbkhcnafhcaaGreat
open Go.RowKit Go.Sort Go.Shelf

theorem one_cell {v : Value} (h : v.oneCell' = true) : ∀ y ∈ [v], ∀ c ∈ one y, c.oneCell' = true := by
  intro y hy c hc
  simp at hy; subst hy
  simp [one] at hc; subst hc
  exact h
theorem row_cell {Q : Nat → Prop} {w : World} {v : Value} {r : Rw} (h : RowIn Q w v r) : v.oneCell' = true := by
  obtain ⟨p, cap, rfl, -⟩ := h; rfl
theorem heads_cells {Q : Nat → Prop} {w : World} {hs : List Value} {rs : List Rw} (h : HeadsIn Q w hs rs) : ∀ y ∈ hs, ∀ c ∈ one y, c.oneCell' = true := by
  intro y hy c hc
  simp [one] at hc; subst hc
  obtain ⟨j, hj⟩ := List.getElem?_of_mem hy
  have hlt : j < rs.length := by rw [← h.1]; exact (List.getElem?_eq_some_iff.1 hj).1
  exact row_cell (h.2 j _ _ hj (get!_some hlt))
theorem HeadsIn.snoc' {Q : Nat → Prop} {w : World} {hs : List Value} {rs : List Rw} {h : Value} {r : Rw} (hh : HeadsIn Q w hs rs) (hr : RowIn Q w h r) : HeadsIn Q w (hs ++ [h]) (rs ++ [r]) := by
  refine ⟨by simp [hh.1], fun j x q h1 h2 => ?_⟩
  by_cases hlt : j < hs.length
  · rw [List.getElem?_append_left hlt] at h1
    rw [List.getElem?_append_left (by rw [← hh.1]; exact hlt)] at h2
    exact hh.2 j x q h1 h2
  · have hj : j = hs.length := by have := (List.getElem?_eq_some_iff.1 h1).1; simp at this; omega
    subst hj
    rw [List.getElem?_append_right (Nat.le_refl _)] at h1
    rw [hh.1, List.getElem?_append_right (Nat.le_refl _)] at h2
    simp at h1 h2
    subst h1 h2
    exact hr
theorem bound1 {n m : Nat} (h : n * bsz 1 ≤ 140737488355328) (hm : m ≤ n) : m * bsz 1 ≤ 140737488355328 := Nat.le_trans (Nat.mul_le_mul_right _ hm) h
theorem below_on2 {W w1 w2 : World} (h : Below W.heap.size W w1) (h2 : Below w1.heap.size w1 w2) : Below W.heap.size W w2 := below_on h h2
theorem sl_cell {Q : Nat → Prop} {w : World} {p : Option Addr} {n cap : Nat} {hs : List Value} {k : Nat} (h : SlAt Q one 1 w (.slice p n cap) hs) (hk : k < hs.length) : ∃ b o, p = some ⟨b, o, none⟩ ∧ w.cell? ⟨b, o + k, none⟩ = some hs[k]! := by
  obtain ⟨p', cap', hv, -, -, hx⟩ := h
  cases hv
  obtain ⟨b, o, hp, -, hj⟩ := hx (by intro e; subst e; simp at hk)
  exact ⟨b, o, hp, head_cell hj (get!_some hk)⟩
def Sorts (Q : Nat → Prop) (w : World) (v : Value) (rs : List Rw) : Prop := Calls Tryz.prog 65 #[v] w fun e w' => ∃ v' hs', e = .returned v' ∧ SlAt (fun b => w.heap.size ≤ b) one 1 w' v' hs' ∧ HeadsIn Q w' hs' (sortR rs) ∧ Below w.heap.size w w'
set_option maxHeartbeats 1000000 in
theorem sorted_short {Q : Nat → Prop} {v : Value} {hs : List Value} {rs : List Rw} {w : World} (hv : SlAt any one 1 w v hs) (hh : HeadsIn Q w hs rs) (hl : hs.length < 2) : Sorts Q w v rs := by
  unfold Sorts
  rw [sortR_short (by rw [← hh.1]; exact hl)]
  have HV := hid hv
  have HH := hid hh
  obtain ⟨p, cap, rfl, hcap, hmax, hx⟩ := hv
  clear hmax hx hh hcap
  generalize hn : hs.length = n at *
  have HN := hid hn
  clear hn
  go_enter Tryz.func65, Tryz.ntmps65
  go_wp2_with (at_builtin; refine app_any elem35 one_len (heads_cells HH.out) rfl _ _ rfl rfl (Own.made one 1 32 w.heap.size w (Nat.le_refl _)) rfl (SlAt.on HV.out ((Below.refl _ _).alloc (Nat.le_refl _) _)) (by simpa using SlAt.bound HV.out) (by simp) ?_; intro v' w1 hown hb1)
  have hb2 : Below w.heap.size w w1 := ((Below.refl _ _).alloc (Nat.le_refl _) _).trans hb1
  rw [List.nil_append] at hown
  go_ret
  exact ⟨_, hs, rfl, Own.sl hown one_len (SlAt.bound HV.out), HH.out.on hb2, hb2⟩
set_option maxHeartbeats 2000000 in
theorem sorted_long {Q : Nat → Prop} {p : Option Addr} {cap : Nat} {hs : List Value} {rs : List Rw} {w : World} (hv : SlAt any one 1 w (.slice p hs.length cap) hs) (hh : HeadsIn Q w hs rs) (hl : 2 ≤ hs.length)
    (ih : ∀ (w1 : World) (u : Value) (h1 : List Value) (r1 : List Rw), h1.length < hs.length → SlAt any one 1 w1 u h1 → HeadsIn Q w1 h1 r1 → Sorts Q w1 u r1) : Sorts Q w (.slice p hs.length cap) rs := by
  obtain ⟨h, hhd⟩ : ∃ h, hs.length / 2 = h := ⟨_, rfl⟩
  have hcap : hs.length ≤ cap ∧ hs.length ≤ maxLen := by
    obtain ⟨p', cap2, e, ⟨hcap, -⟩, hmx, -⟩ := id hv
    cases e
    exact ⟨hcap, hmx⟩
  obtain ⟨hcap, hmx⟩ := hcap
  have C1 : Hid (Sorts Q w (.slice p h cap) (rs.take h)) := ih w _ (hs.take h) (rs.take h) (by simp; omega) (hv.take h (by omega)) (hh.take h)
  have C2 : Hid (∀ W, Below w.heap.size w W → Sorts Q W (.slice (Option.map (fun x => x.add h) p) (hs.length - h) (cap - h)) (rs.drop h)) := fun W hb => by
    have hd := hv.drop rfl h (by omega)
    rw [if_neg (by omega)] at hd
    exact ih W _ (hs.drop h) (rs.drop h) (by simp; omega) (hd.on hb) ((hh.drop h).on hb)
  have HRS : Hid (mergeR (sortR (rs.take h)) (sortR (rs.drop h)) = sortR rs) := by rw [mergeR_sort, List.take_append_drop]; exact rfl
  have HBD := hid (SlAt.bound hv)
  have hla : (sortR (rs.take h)).length = h := by rw [sortR_length, List.length_take, ← hh.1]; omega
  have hlb : (sortR (rs.drop h)).length = hs.length - h := by rw [sortR_length, List.length_drop, ← hh.1]
  unfold Sorts at C1 C2 ⊢
  clear ih hv
  generalize sortR (rs.take h) = A at *
  generalize sortR (rs.drop h) = B at *
  generalize sortR rs = R at *
  clear hh
  generalize hs.length = n at *
  unfold maxLen at hmx
  have hq : (n : Int) / 2 = (h : Int) := by omega
  have hhn : h ≤ n := by omega
  have hh0 : 0 < h := by omega
  have HLA := hid hla
  have HLB := hid hlb
  generalize hm : n - h = m at *
  clear hla hlb hhd
  have M1 : Hid True := trivial
  have M2 : Hid True := trivial
  go_enter Tryz.func65, Tryz.ntmps65
  go_wp2_with (first
    | (go_at_call 65; clear M1; refine C1.out.mono ?_; rintro e w1 ⟨v1, ha, rfl, hs1, hh1, hb1⟩; have HS1 := hid hs1; have HH1 := hid hh1; have HB1 := hid hb1; obtain ⟨pa, capa, rfl, -⟩ := hs1; rw [show ha.length = h by rw [HH1.out.1, HLA.out]] at HS1 ⊢; clear hh1 hb1)
    | (go_at_call 65; clear M2; refine (C2.out _ HB1.out).mono ?_; rintro e w2 ⟨v2, hb, rfl, hs2, hh2, hb2⟩; have HS2 := hid hs2; have HH2 := hid hh2; have HB2 := hid hb2; obtain ⟨pb, capb, rfl, -⟩ := hs2; rw [show hb.length = m by rw [HH2.out.1, HLB.out]] at HS2 ⊢; clear hh2 hb2))
  have HSA := hid (HS1.out.on HB2.out)
  have HHA := hid (HH1.out.on HB2.out)
  have HBD' : h + m = n := by omega
  clear C1 C2 HS1 HH1
  go_loopw [5, 6, 7] (fun o i k wr => ∃ (i' k' : Nat) (oh : List Value) (acc : List Rw), i' ≤ h ∧ k' ≤ m ∧ i = .int .i64 i' ∧ k = .int .i64 k' ∧ oh.length = i' + k' ∧ Hid (Own one 1 32 w2.heap.size wr o oh) ∧ Hid (HeadsIn Q w2 oh acc) ∧ Hid (acc ++ mergeR (A.drop i') (B.drop k') = R) ∧ Hid (Below w2.heap.size w2 wr)) (fun _ i k _ => (h + m) - ((intOf i).toNat + (intOf k).toNat))
  case atStart => exact ⟨0, 0, [], [], by omega, by omega, rfl, rfl, rfl, Own.nil _ _ _ _ _, ⟨rfl, fun j x r h1 _ => by simp at h1⟩, HRS.out, Below.refl _ _⟩
  case round =>
    obtain ⟨i', k', oh, acc, hi, hk, rfl, rfl, hlen, HO, KO, HM, HB⟩ := hrel
    by_cases hlt : i' < h
    · have hia : i' < ha.length := by rw [HHA.out.1, HLA.out]; exact hlt
      have hiA : i' < A.length := by rw [HLA.out]; exact hlt
      obtain ⟨ba, oa, rfl, hja⟩ := sl_cell HSA.out hia
      have HRA := hid (HHA.out.2 i' _ _ (get!_some hia) (get!_some hiA))
      have HCA := hid (cell_on hja HB.out)
      have HLe := hid (fun hk => mergeR_left (a := A) (b := B) (i := i') (k := k') hiA hk)
      have HLt := hid (fun hk h => mergeR_le (a := A) (b := B) (i := i') (k := k') hiA hk h)
      have HGt := hid (fun hk h => mergeR_gt (a := A) (b := B) (i := i') (k := k') hiA hk h)
      generalize ha[i']! = hda at *
      generalize A[i']! = ra at *
      clear hja
      by_cases hlk : k' < m
      · have hkb : k' < hb.length := by rw [HH2.out.1, HLB.out]; exact hlk
        have hkB : k' < B.length := by rw [HLB.out]; exact hlk
        obtain ⟨bb, ob, rfl, hjb⟩ := sl_cell HS2.out hkb
        have HRB := hid (HH2.out.2 k' _ _ (get!_some hkb) (get!_some hkB))
        have HCB := hid (cell_on hjb HB.out)
        generalize hb[k']! = hdb at *
        generalize B[k']! = rb at *
        clear hjb
        have e1 : ((k' : Int) == (m : Int)) = false := by rw [Bool.eq_false_iff]; intro e; have := beq_iff_eq.1 e; omega
        have ca := regrown_cell HCA.out
        have cb := regrown_cell HCB.out
        have HRA' : ∀ d os, Hid (RowAt (grow (redrawn wr d) os) hda ra) := fun d os => (HRA.out.on (below_on2 HB.out (below_regrown wr d os))).at
        have HRB' : ∀ d os, Hid (RowAt (grow (redrawn wr d) os) hdb rb) := fun d os => (HRB.out.on (below_on2 HB.out (below_regrown wr d os))).at
        by_cases hc : cmpR ra rb ≤ 0
        · obtain ⟨c, hcv⟩ : ∃ c, cmpR ra rb = c := ⟨_, rfl⟩
          have HCV := hid hcv
          have hc0 : decide (c ≤ 0) = true := by rw [← hcv]; exact decide_eq_true hc
          have HCC := hid hc
          clear hcv hc
          go_wp2_with fail
          refine wp_region_quiet_below (by kernel_rfl) (by kernel_rfl) ?_
          repeat (go_big_quiet_step (first | (go_at_call 32; exact Calls.regrown_of (rrow_is (HRA' _ _).out (HRB' _ _).out HCV.out))))
          refine wpQuiet_nil ?_
          intro _ hw'
          obtain ⟨⟨dq, osq⟩, hw''⟩ := hw'
          subst hw''
          have HBW := hid (HB.out.trans ((below_regrown wr dq osq).mono HB.out.size))
          have HOW := hid (Own.on HO.out (below_regrown wr dq osq))
          have cw := cell_on HCA.out (below_regrown wr dq osq)
          clear ca cb HRA' HRB'
          generalize grow (redrawn wr dq) osq = W at *
          obtain ⟨px, capx, rfl, -⟩ := id HRA.out
          go_wp2_with (at_builtin; refine app_any elem35 one_len (ys := [.slice px ra.length capx]) (one_cell (row_cell HRA.out)) rfl _ _ rfl rfl (Own.on HOW.out ((Below.refl _ _).alloc (Nat.le_refl _) _)) rfl (lit_sl (alloc_block _ _) one_len rfl rfl (Nat.le_refl _) (by simp)) (bound1 HBD.out (by simp; omega)) (Nat.le_trans HBW.out.size (by simp)) ?_; intro v' w3 hown hb3)
          go_roundw
          case rel =>
            refine ⟨i' + 1, k', oh ++ [_], acc ++ [ra], by omega, by omega, by go_num, rfl, by simp; omega, hown, KO.out.snoc' HRA.out, ?_, (HBW.out.alloc HBW.out.size _).trans hb3⟩
            have hx := HLt.out hkB HCC.out
            rw [← HM.out, hx, List.append_assoc]; rfl
          case measure => simp [intOf]; omega
        · obtain ⟨c, hcv⟩ : ∃ c, cmpR ra rb = c := ⟨_, rfl⟩
          have HCV := hid hcv
          have hc0 : decide (c ≤ 0) = false := by rw [← hcv]; exact decide_eq_false hc
          have HCC := hid hc
          clear hcv hc
          go_wp2_with fail
          refine wp_region_quiet_below (by kernel_rfl) (by kernel_rfl) ?_
          repeat (go_big_quiet_step (first | (go_at_call 32; exact Calls.regrown_of (rrow_is (HRA' _ _).out (HRB' _ _).out HCV.out))))
          refine wpQuiet_nil ?_
          intro _ hw'
          obtain ⟨⟨dq, osq⟩, hw''⟩ := hw'
          subst hw''
          have HBW := hid (HB.out.trans ((below_regrown wr dq osq).mono HB.out.size))
          have HOW := hid (Own.on HO.out (below_regrown wr dq osq))
          have cw := cell_on HCB.out (below_regrown wr dq osq)
          clear ca cb HRA' HRB'
          generalize grow (redrawn wr dq) osq = W at *
          obtain ⟨px, capx, rfl, -⟩ := id HRB.out
          go_wp2_with (at_builtin; refine app_any elem35 one_len (ys := [.slice px rb.length capx]) (one_cell (row_cell HRB.out)) rfl _ _ rfl rfl (Own.on HOW.out ((Below.refl _ _).alloc (Nat.le_refl _) _)) rfl (lit_sl (alloc_block _ _) one_len rfl rfl (Nat.le_refl _) (by simp)) (bound1 HBD.out (by simp; omega)) (Nat.le_trans HBW.out.size (by simp)) ?_; intro v' w3 hown hb3)
          go_roundw
          case rel =>
            refine ⟨i', k' + 1, oh ++ [_], acc ++ [rb], by omega, by omega, rfl, by go_num, by simp; omega, hown, KO.out.snoc' HRB.out, ?_, (HBW.out.alloc HBW.out.size _).trans hb3⟩
            have hx := HGt.out hkB HCC.out
            rw [← HM.out, hx, List.append_assoc]; rfl
          case measure => simp [intOf]; omega
      · have hkm : k' = m := by omega
        subst hkm
        go_wp2_with fail
        refine wp_region_quiet_below (by kernel_rfl) (by kernel_rfl) ?_
        repeat (go_big_quiet_step (first | fail))
        refine wpQuiet_nil ?_
        intro _ hw'
        obtain ⟨⟨dq, osq⟩, hw''⟩ := hw'
        subst hw''
        have HBW := hid (HB.out.trans ((below_regrown wr dq osq).mono HB.out.size))
        have HOW := hid (Own.on HO.out (below_regrown wr dq osq))
        have cw := cell_on HCA.out (below_regrown wr dq osq)
        generalize grow (redrawn wr dq) osq = W at *
        obtain ⟨px, capx, rfl, -⟩ := id HRA.out
        go_wp2_with (at_builtin; refine app_any elem35 one_len (ys := [.slice px ra.length capx]) (one_cell (row_cell HRA.out)) rfl _ _ rfl rfl (Own.on HOW.out ((Below.refl _ _).alloc (Nat.le_refl _) _)) rfl (lit_sl (alloc_block _ _) one_len rfl rfl (Nat.le_refl _) (by simp)) (bound1 HBD.out (by simp; omega)) (Nat.le_trans HBW.out.size (by simp)) ?_; intro v' w3 hown hb3)
        go_roundw
        case rel =>
          refine ⟨i' + 1, k', oh ++ [_], acc ++ [ra], by omega, by omega, by go_num, rfl, by simp; omega, hown, KO.out.snoc' HRA.out, ?_, (HBW.out.alloc HBW.out.size _).trans hb3⟩
          have hx := HLe.out (by rw [HLB.out]; exact Nat.le_refl _)
          rw [← HM.out, hx, List.append_assoc]; rfl
        case measure => simp [intOf]; omega
    · have hih : i' = h := by omega
      subst hih
      by_cases hlk : k' < m
      · have hkb : k' < hb.length := by rw [HH2.out.1, HLB.out]; exact hlk
        have hkB : k' < B.length := by rw [HLB.out]; exact hlk
        obtain ⟨bb, ob, rfl, hjb⟩ := sl_cell HS2.out hkb
        have HRB := hid (HH2.out.2 k' _ _ (get!_some hkb) (get!_some hkB))
        have HCB := hid (cell_on hjb HB.out)
        have HRt := hid (fun hi => mergeR_right (a := A) (b := B) (i := i') (k := k') hi hkB)
        generalize hb[k']! = hdb at *
        generalize B[k']! = rb at *
        clear hjb
        have e1 : ((k' : Int) == (m : Int)) = false := by rw [Bool.eq_false_iff]; intro e; have := beq_iff_eq.1 e; omega
        go_wp2_with fail
        refine wp_region_quiet_below (by kernel_rfl) (by kernel_rfl) ?_
        repeat (go_big_quiet_step (first | fail))
        refine wpQuiet_nil ?_
        intro _ hw'
        obtain ⟨⟨dq, osq⟩, hw''⟩ := hw'
        subst hw''
        have HBW := hid (HB.out.trans ((below_regrown wr dq osq).mono HB.out.size))
        have HOW := hid (Own.on HO.out (below_regrown wr dq osq))
        have cw := cell_on HCB.out (below_regrown wr dq osq)
        generalize grow (redrawn wr dq) osq = W at *
        obtain ⟨px, capx, rfl, -⟩ := id HRB.out
        go_wp2_with (at_builtin; refine app_any elem35 one_len (ys := [.slice px rb.length capx]) (one_cell (row_cell HRB.out)) rfl _ _ rfl rfl (Own.on HOW.out ((Below.refl _ _).alloc (Nat.le_refl _) _)) rfl (lit_sl (alloc_block _ _) one_len rfl rfl (Nat.le_refl _) (by simp)) (bound1 HBD.out (by simp; omega)) (Nat.le_trans HBW.out.size (by simp)) ?_; intro v' w3 hown hb3)
        go_roundw
        case rel =>
          refine ⟨i', k' + 1, oh ++ [_], acc ++ [rb], by omega, by omega, rfl, by go_num, by simp; omega, hown, KO.out.snoc' HRB.out, ?_, (HBW.out.alloc HBW.out.size _).trans hb3⟩
          have hx := HRt.out (by rw [HLA.out]; exact Nat.le_refl _)
          rw [← HM.out, hx, List.append_assoc]; rfl
        case measure => simp [intOf]; omega
      · have hkm : k' = m := by omega
        subst hkm
        go_wp2
        go_ret
        have he : acc = R := by
          have := HM.out
          rw [List.drop_eq_nil_of_le (by rw [HLA.out]; exact Nat.le_refl _), List.drop_eq_nil_of_le (by rw [HLB.out]; exact Nat.le_refl _)] at this
          rw [← this]; simp [mergeR]
        subst he
        have hsz : w.heap.size ≤ w2.heap.size := Nat.le_trans HB1.out.size HB2.out.size
        exact ⟨_, oh, rfl, (Own.sl HO.out one_len (bound1 HBD.out (by omega))).imp (fun b hb => Nat.le_trans hsz hb), KO.out.on HB.out, (below_on HB1.out HB2.out).trans (HB.out.mono hsz)⟩
theorem sorted_any {Q : Nat → Prop} : ∀ (n : Nat) {v : Value} {hs : List Value} {rs : List Rw} {w : World}, hs.length ≤ n → SlAt any one 1 w v hs → HeadsIn Q w hs rs → Sorts Q w v rs := by
  intro n
  induction n with
  | zero => intro v hs rs w hn hv hh; exact sorted_short hv hh (by omega)
  | succ n ih =>
    intro v hs rs w hn hv hh
    by_cases hl : hs.length < 2
    · exact sorted_short hv hh hl
    · obtain ⟨p, cap, rfl, h1, h2, h3⟩ := hv
      exact sorted_long ⟨p, cap, rfl, h1, h2, h3⟩ hh (by omega) (fun w1 u h1 r1 hlt hs1 hh1 => ih (by omega) hs1 hh1)
end Go.Proofs.YtlbjbkhcnafhcaaGreat
namespace Go.Proofs.YtlbjbkhcnafhcaaGreat
open Go.RowKit Go.Sort Go.Shelf

theorem step_app {ops : Array Oper} {o : Oper} {a : Act} {w : World} {K : Act → World → Prop} {Q : Exit → Act → World → Prop} {E : Prop} {α : Type} {enc : α → List Value} {k e t B : Nat} {Qb : Nat → Prop} {xs ys : List α} {v u : Value}
    (hE : Elem t e k) (hk : ∀ x, (enc x).length = k) (h1 : ∀ y ∈ ys, ∀ c ∈ enc y, c.oneCell' = true) (hgd : o.guard = none) (s x : Operand) (ho : o.op = .call { callee := .builtin .append, args := #[s, x], argTypes := #[t, t] })
    (hs : a.eval s = v) (hx : a.eval x = u) (hown : Own enc k e B w v xs) (hu : SlAt Qb enc k w u ys) (hb : (xs.length + ys.length) * bsz k ≤ 140737488355328) (hB : B ≤ w.heap.size)
    (h : ∀ v' w', Own enc k e B w' v' (xs ++ ys) → Below B w w' → w.grownBy w' v.ownBlock → K (a.put o.dst v') w') : if Region.wanted o (yielded ops a.tmps) = true then Oper.wp Tryz.prog o a w K Q else E := by
  have hw : Region.wanted o (yielded ops a.tmps) = true := by simp [Region.wanted, hgd]
  rw [if_pos hw]
  obtain ⟨ht, hkp, i0, z, hi, hz0, hz1, hz2, hzs⟩ := hE
  obtain ⟨p, cap, rfl, ⟨hcap, hnone⟩, hmax, hy⟩ := hu
  cases p with
  | none =>
    have hn : ys = [] := by
      cases ys with
      | nil => rfl
      | cons y r => obtain ⟨b, o, hp, _⟩ := hy (by simp); cases hp
    subst hn
    have hc := hnone rfl
    subst hc
    have hrun := run_append_owned_none (P := Tryz.prog) (w := w) B t o.type e i0 k ht hi v xs.length _ hown
    have hx' : a.eval x = .slice none 0 0 := by rw [hx]; rfl
    unfold Oper.wp
    simp [execOp, ho, resolve, invoke, builtin, hs, hx', hrun, Result.andThen]
    exact h v w (by rw [List.append_nil]; exact hown) (Below.refl _ _) ⟨rfl, rfl, rfl, Nat.le_refl _, fun _ _ _ => rfl⟩
  | some ad =>
    refine wp_append_own w s x t ho B e i0 z k i0.bytes ht hi hz0 hz1 rfl hzs hkp v xs.length _ hs hown ad ys.length cap (ys.flatMap enc) hx (flat_length hk ys) ?_ ?_ ?_ (Nat.le_trans (Nat.mul_le_mul_left _ hz2) hb) hB ?_
    · intro j c hj
      have hne : ys ≠ [] := by intro e; subst e; simp at hj
      obtain ⟨b, o, hp, _, hcell⟩ := hy hne
      have hp' : ad = ⟨b, o, none⟩ := Option.some.inj hp
      rw [hp', Addr.add_lit]
      exact flat_cells hk ys o hcell j c hj
    · intro c hc
      obtain ⟨y, hy', hcy⟩ := List.mem_flatMap.1 hc
      exact h1 y hy' c hcy
    · unfold maxLen; unfold bsz at hb; split at hb <;> omega
    · intro v' w' h2 h3 _
      refine h v' w' ?_ ((Below.refl B w).grown h3 hB (fun j e => (hown.lt j e))) h3
      show w'.ownsRow B e k v' (xs ++ ys).length ((xs ++ ys).flatMap enc)
      rw [List.length_append, List.flatMap_append]; exact h2
theorem step_call {ops : Array Oper} {o : Oper} {a : Act} {w : World} {K : Act → World → Prop} {Q : Exit → Act → World → Prop} {E : Prop} {f : FuncId} {v : Value} (hgd : o.guard = none) (x : Operand) (t : TypeId)
    (ho : o.op = .call { callee := .value (.func f), args := #[x], argTypes := #[t] }) (hx : a.eval x = v) (hen : ∀ args w, (callFunc f args).run Tryz.prog w = .ok (.enter f args) w)
    (hc : Calls Tryz.prog f #[v] w fun e w' => ∃ u, e = .returned u ∧ K (a.put o.dst u) w') : if Region.wanted o (yielded ops a.tmps) = true then Oper.wp Tryz.prog o a w K Q else E := by
  have hw : Region.wanted o (yielded ops a.tmps) = true := by simp [Region.wanted, hgd]
  rw [if_pos hw]
  unfold Oper.wp
  have hr : (execOp a.eval o).run Tryz.prog w = .ok (.enter f #[v]) w := by
    simp [execOp, ho, resolve, invoke, hen, go_sem]
    rw [← hx]
    cases x <;> simp [Act.eval]
  rw [hr, Oper.upon_enter]
  refine hc.mono ?_
  rintro e w' ⟨u, rfl, hk⟩
  exact hk
theorem SlAt.grown {α : Type} {Q : Nat → Prop} {enc : α → List Value} {k : Nat} {w w' : World} {v : Value} {xs : List α} {row : Option Nat} (h : SlAt Q enc k w v xs) (hk : 0 < k) (hen : ∀ x, (enc x).length = k) (hg : w.grownBy w' row) (hne : ∀ b, Q b → b < w.heap.size → some b ≠ row) : SlAt Q enc k w' v xs := by
  obtain ⟨p, cap, hv, hc, hm, hx⟩ := h
  refine ⟨p, cap, hv, hc, hm, fun hn => ?_⟩
  obtain ⟨b, o, hp, hQ, hj⟩ := hx hn
  have hb0 : b < w.heap.size := by
    cases xs with
    | nil => exact absurd rfl hn
    | cons x r =>
      have hl : (enc x)[0]? = some ((enc x)[0]'(by rw [hen]; exact hk)) := List.getElem?_eq_getElem _
      exact block_lt_of_cell (hj 0 x rfl 0 _ hl)
  have hb : w'.heap[b]? = w.heap[b]? := hg.block b hb0 (hne b hQ.1 hb0)
  exact ⟨b, o, hp, hQ, fun j x hjx i u hu => (World.cell?_of_block (a := ⟨b, o + j * k + i, none⟩) hb).trans (hj j x hjx i u hu)⟩
theorem SlAt.low {α : Type} {Q : Nat → Prop} {enc : α → List Value} {k : Nat} {w : World} {v : Value} {xs : List α} (h : SlAt Q enc k w v xs) (hk : 0 < k) (hen : ∀ x, (enc x).length = k) : SlAt (fun b => Q b ∧ b < w.heap.size) enc k w v xs := by
  obtain ⟨p, cap, hv, hc, hm, hx⟩ := h
  refine ⟨p, cap, hv, hc, hm, fun hn => ?_⟩
  obtain ⟨b, o, hp, hQ, hj⟩ := hx hn
  have hb0 : b < w.heap.size := by
    cases xs with
    | nil => exact absurd rfl hn
    | cons x r =>
      have hl : (enc x)[0]? = some ((enc x)[0]'(by rw [hen]; exact hk)) := List.getElem?_eq_getElem _
      exact block_lt_of_cell (hj 0 x rfl 0 _ hl)
  exact ⟨b, o, hp, ⟨⟨hQ.1, hb0⟩, hQ.2⟩, hj⟩
theorem SlAt.onB {α : Type} {Q : Nat → Prop} {enc : α → List Value} {k B : Nat} {w w' : World} {v : Value} {xs : List α} (h : SlAt Q enc k w v xs) (hb : Below B w w') (hq : ∀ b, Q b → b < B) : SlAt Q enc k w' v xs := by
  obtain ⟨p, cap, hv, hc, hm, hx⟩ := h
  refine ⟨p, cap, hv, hc, hm, fun hn => ?_⟩
  obtain ⟨b, o, hp, hQ, hj⟩ := hx hn
  exact ⟨b, o, hp, hQ, fun j x hjx i u hu => (hb.cell (p := ⟨b, o + j * k + i, none⟩) (hq b hQ.1)).trans (hj j x hjx i u hu)⟩
theorem HeadsIn.onB {Q : Nat → Prop} {B : Nat} {w w' : World} {hs : List Value} {rs : List Rw} (h : HeadsIn Q w hs rs) (hb : Below B w w') (hq : ∀ b, Q b → b < B) : HeadsIn Q w' hs rs := ⟨h.1, fun j x r h1 h2 => SlAt.onB (h.2 j x r h1 h2) hb hq⟩
theorem enters38 : ∀ args w, (callFunc 65 args).run Tryz.prog w = .ok (.enter 65 args) w := enters_of Tryz.func65 (by kernel_rfl) rfl
end Go.Proofs.YtlbjbkhcnafhcaaGreat
namespace Go.Proofs.YtlbjbkhcnafhcaaGreat
open Go.RowKit Go.Sort Go.Shelf

theorem app_all {ops : Array Oper} {rest : List Oper} {o : Oper} {a : Act} {Q : Exit → Act → World → Prop} {w : World} {α : Type} {enc : α → List Value} {k e t B : Nat} {Qb : Nat → Prop} {xs ys : List α} {v u : Value}
    (hE : Elem t e k) (hk : ∀ x, (enc x).length = k) (h1 : ∀ y ∈ ys, ∀ c ∈ enc y, c.oneCell' = true) (hgd : o.guard = none) (s x : Operand) (ho : o.op = .call { callee := .builtin .append, args := #[s, x], argTypes := #[t, t] })
    (hs : a.eval s = v) (hown : Own enc k e B w v xs) (hx : a.eval x = u) (hu : SlAt Qb enc k w u ys) (hb : (xs.length + ys.length) * bsz k ≤ 140737488355328) (hB : B ≤ w.heap.size)
    (h : ∀ v' w', Own enc k e B w' v' (xs ++ ys) → Below B w w' → w.grownBy w' v.ownBlock → wpList Tryz.prog ops Q rest (a.put o.dst v') w') : wpList Tryz.prog ops Q (o :: rest) a w := by
  obtain ⟨ht, hkp, i0, z, hi, hz0, hz1, hz2, hzs⟩ := hE
  obtain ⟨p, cap, rfl, ⟨hcap, hnone⟩, hmax, hy⟩ := hu
  cases p with
  | none =>
    have hn : ys = [] := by
      cases ys with
      | nil => rfl
      | cons y r => obtain ⟨b, o, hp, _⟩ := hy (by simp); cases hp
    subst hn
    have hc := hnone rfl
    subst hc
    refine wpList_append_own_none hgd s x t ho B e i0 k ht hi v xs.length _ hs hown (by rw [hx]; rfl) ?_
    have := h v w (by rw [List.append_nil]; exact hown) (Below.refl _ _) ⟨rfl, rfl, rfl, Nat.le_refl _, fun _ _ _ => rfl⟩
    exact this
  | some ad =>
    refine wpList_append_own w hgd s x t ho B e i0 z k i0.bytes ht hi hz0 hz1 rfl hzs hkp v xs.length _ hs hown ad ys.length cap (ys.flatMap enc) hx (flat_length hk ys) ?_ ?_ ?_ (Nat.le_trans (Nat.mul_le_mul_left _ hz2) hb) hB ?_
    · intro j c hj
      have hne : ys ≠ [] := by intro e; subst e; simp at hj
      obtain ⟨b, o, hp, _, hcell⟩ := hy hne
      have hp' : ad = ⟨b, o, none⟩ := Option.some.inj hp
      rw [hp', Addr.add_lit]
      exact flat_cells hk ys o hcell j c hj
    · intro c hc
      obtain ⟨y, hy', hcy⟩ := List.mem_flatMap.1 hc
      exact h1 y hy' c hcy
    · unfold maxLen; unfold bsz at hb; split at hb <;> omega
    · intro v' w' h2 h3 _
      refine h v' w' ?_ ((Below.refl B w).grown h3 hB (fun j e => (hown.lt j e))) h3
      show w'.ownsRow B e k v' (xs ++ ys).length ((xs ++ ys).flatMap enc)
      rw [List.length_append, List.flatMap_append]; exact h2
/- A block of values, of the call's own. -/
def ty48 (B : Nat) (w : World) (b : Nat) : Prop := B ≤ b ∧ ∃ c fz, w.heap[b]? = some (.cells c 40 fz)
theorem own_ne {enc : Value → List Value} {B B' : Nat} {w : World} {v : Value} {hs : List Value} (h : Own enc 1 32 B w v hs) {b : Nat} (hb : ty48 B' w b) : some b ≠ v.ownBlock := fun e => by
  obtain ⟨c, fz, hc⟩ := Lib.ownsRow_kind h b e.symm
  obtain ⟨-, c', fz', hc'⟩ := hb
  rw [hc] at hc'
  cases hc'
theorem row_grown {B : Nat} {w w' : World} {v : Value} {r : Rw} {row : Option Nat} (h : RowIn (ty48 B w) w v r) (hg : w.grownBy w' row) (hne : ∀ b, ty48 B w b → some b ≠ row) : RowIn (ty48 B w') w' v r := by
  obtain ⟨p, cap, hv, hc, hm, hx⟩ := h
  refine ⟨p, cap, hv, hc, hm, fun hn => ?_⟩
  obtain ⟨b, o, hp, hQ, hj⟩ := hx hn
  have hb : w'.heap[b]? = w.heap[b]? := by
    obtain ⟨-, c, fz, hc⟩ := hQ.1
    exact hg.block b (lt_of_block hc) (hne b hQ.1)
  refine ⟨b, o, hp, ⟨?_, hQ.2⟩, fun j x hjx i u hu => ?_⟩
  · obtain ⟨hB, c, fz, hc⟩ := hQ.1
    exact ⟨hB, c, fz, hb.trans hc⟩
  · exact (World.cell?_of_block (a := ⟨b, o + j * 11 + i, none⟩) hb).trans (hj j x hjx i u hu)
theorem heads_grown {B : Nat} {w w' : World} {hs : List Value} {rs : List Rw} {row : Option Nat} (h : HeadsIn (ty48 B w) w hs rs) (hg : w.grownBy w' row) (hne : ∀ b, ty48 B w b → some b ≠ row) : HeadsIn (ty48 B w') w' hs rs := ⟨h.1, fun j x r h1 h2 => row_grown (h.2 j x r h1 h2) hg hne⟩
theorem ty_on {B : Nat} {w w' : World} {b : Nat} (h : ty48 B w b) (hb : Below w.heap.size w w') : ty48 B w' b := let ⟨hB, c, fz, hc⟩ := h; ⟨hB, c, fz, block_on hc hb⟩
theorem heads_ty_on {B : Nat} {w w' : World} {hs : List Value} {rs : List Rw} (h : HeadsIn (ty48 B w) w hs rs) (hb : Below w.heap.size w w') : HeadsIn (ty48 B w') w' hs rs := (h.on hb).imp (fun _ k => ty_on k hb)
theorem HeadsIn.snoc {Q : Nat → Prop} {w : World} {hs : List Value} {rs : List Rw} {h : Value} {r : Rw} (hh : HeadsIn Q w hs rs) (hr : RowIn Q w h r) : HeadsIn Q w (hs ++ [h]) (rs ++ [r]) := by
  refine ⟨by simp [hh.1], fun j x q h1 h2 => ?_⟩
  by_cases hlt : j < hs.length
  · rw [List.getElem?_append_left hlt] at h1
    rw [List.getElem?_append_left (by rw [← hh.1]; exact hlt)] at h2
    exact hh.2 j x q h1 h2
  · have hj : j = hs.length := by have := (List.getElem?_eq_some_iff.1 h1).1; simp at this; omega
    subst hj
    rw [List.getElem?_append_right (Nat.le_refl _)] at h1
    rw [hh.1, List.getElem?_append_right (Nat.le_refl _)] at h2
    simp at h1 h2
    subst h1 h2
    exact hr
/- One row more in a table of the call's own: the header's slice grows, and the table's second cell is set. -/
theorem row_more {wr W0 w1 : World} {T B3 B : Nat} {rv v' cv : Value} {hs : List Value} {rs : List Rw} {r : Rw} {R : Array Value} (hT : T < B3) (hBw : B ≤ wr.heap.size)
    (hsz : B3 ≤ wr.heap.size) (HK2 : wr.heap[T]? = some (.cells #[cv, rv] 44 (0, 0))) (HO : Own one 1 32 B3 wr rv hs) (HH : HeadsIn (ty48 B wr) wr hs rs) (hW0 : Below wr.heap.size wr W0) (hrow : W0.heap[wr.heap.size]? = some (.cells R 40 (0, 0))) (hR : R.toList = r.flatMap Vl.cells) (hr2 : r.length = 2)
    (HO1 : Own one 1 32 B3 w1 v' (hs ++ [.slice (some ⟨wr.heap.size, 0, none⟩) 2 2])) (HB1 : Below B3 W0 w1) (HG1 : W0.grownBy w1 rv.ownBlock) :
    B3 ≤ (w1.setCell ⟨T, 1, none⟩ v').heap.size ∧ (w1.setCell ⟨T, 1, none⟩ v').heap[T]? = some (.cells #[cv, v'] 44 (0, 0)) ∧ (∀ b, b < T → (w1.setCell ⟨T, 1, none⟩ v').heap[b]? = wr.heap[b]?) ∧
    Own one 1 32 B3 (w1.setCell ⟨T, 1, none⟩ v') v' (hs ++ [.slice (some ⟨wr.heap.size, 0, none⟩) 2 2]) ∧ HeadsIn (ty48 B (w1.setCell ⟨T, 1, none⟩ v')) (w1.setCell ⟨T, 1, none⟩ v') (hs ++ [.slice (some ⟨wr.heap.size, 0, none⟩) 2 2]) (rs ++ [r]) := by
  have K21 : w1.heap[T]? = some (.cells #[cv, rv] 44 (0, 0)) := (HB1.block T hT).trans (block_on HK2 hW0)
  have hne48 : ∀ b, ty48 B w1 b → b ≠ T := fun b hb e => by
    subst e
    obtain ⟨-, c, fz, hc⟩ := hb
    rw [K21] at hc
    cases hc
  refine ⟨?_, ?_, ?_, ?_, ?_⟩
  · rw [World.size_setCell]
    exact Nat.le_trans hsz (Nat.le_trans hW0.size HB1.size)
  · have := heap_setCell_same w1 T 1 _ 44 v' K21
    rw [this]
    rfl
  · intro b hb
    rw [heap_setCell_other _ _ _ _ (by show b ≠ T; omega), HB1.block b (by omega)]
    exact hW0.block b (by omega)
  · refine ⟨HO1.1, HO1.2.elim Or.inl (fun ⟨g, cap, cur, hv, hg, hblk, q⟩ => Or.inr ⟨g, cap, cur, hv, hg, ?_, q⟩)⟩
    rw [heap_setCell_other _ _ _ _ (by show g ≠ T; omega)]
    exact hblk
  · have h0 := heads_ty_on HH hW0
    have ho0 : Own one 1 32 B3 W0 rv hs := HO.on hW0
    have h1 := heads_grown h0 HG1 (fun b hb => own_ne ho0 hb)
    have r0 : RowIn (ty48 B W0) W0 (.slice (some ⟨wr.heap.size, 0, none⟩) 2 2) r := by
      refine SlAt.imp (lit_sl hrow vl_len hR hr2.symm (Nat.le_refl _) (by omega)) (fun b hb => ?_)
      subst hb
      exact ⟨hBw, _, _, hrow⟩
    have r1 := row_grown r0 HG1 (fun b hb => own_ne ho0 hb)
    refine ((h1.snoc r1).set hne48).imp (fun b hb => ?_)
    have hn := hne48 b hb
    obtain ⟨hB, c, fz, hc⟩ := hb
    exact ⟨hB, c, fz, (heap_setCell_other _ _ _ _ (by show b ≠ T; exact hn)).trans hc⟩
theorem alloc_blk2' (w : World) (x y : Obj) : ((w.alloc x).alloc y).heap[w.heap.size + 1]? = some y := by
  have h := alloc_block (w.alloc x) y
  rwa [World.size_alloc] at h
theorem alloc_blk1' (w : World) (x y : Obj) : ((w.alloc x).alloc y).heap[w.heap.size]? = some x := block_on (alloc_block w x) ((Below.refl _ _).alloc (Nat.le_refl _) y)
theorem ext_small (s : ByteArray) (i : Nat) : (s.extract i (i + 1)).size ≤ maxLen := by
  rw [ByteArray.size_extract]; unfold maxLen; omega
/- One header more, as a step of a region that draws its order. -/
theorem step_head {ops : Array Oper} {o : Oper} {a : Act} {w : World} {K : Act → World → Prop} {Q : Exit → Act → World → Prop} {E : Prop} {B g : Nat} {hs : List Value} {v hd : Value}
    (hgd : o.guard = none) (s x : Operand) (ho : o.op = .call { callee := .builtin .append, args := #[s, x], argTypes := #[42, 42] }) (hs' : a.eval s = v) (hx : a.eval x = .slice (some ⟨g, 0, none⟩) 1 1)
    (hown : Own one 1 32 B w v hs) (hblk : w.heap[g]? = some (.cells #[hd] 32 (0, 0))) (h1 : hd.oneCell' = true) (hn : hs.length ≤ 4095) (hB : B ≤ w.heap.size)
    (hK : ∀ v' w', Own one 1 32 B w' v' (hs ++ [hd]) → Below B w w' → w.grownBy w' v.ownBlock → K (a.put o.dst v') w') :
    if Region.wanted o (yielded ops a.tmps) = true then Oper.wp Tryz.prog o a w K Q else E := by
  have hw : Region.wanted o (yielded ops a.tmps) = true := by simp [Region.wanted, hgd]
  rw [if_pos hw]
  obtain ⟨ht, hkp, i0, z, hi, hz0, hz1, hz2, hzs⟩ := elem35
  refine wp_append_own w s x 42 ho B 32 i0 z 1 i0.bytes ht hi hz0 hz1 rfl hzs hkp v hs.length _ hs' hown ⟨g, 0, none⟩ 1 1 [hd] hx rfl ?_ ?_ ?_ ?_ hB ?_
  · intro j c hj
    have hj0 : j = 0 := by have := (List.getElem?_eq_some_iff.1 hj).1; simpa using this
    subst hj0
    simp at hj
    subst hj
    rw [Addr.add_lit, block_cell hblk]
    rfl
  · intro c hc
    simp at hc
    subst hc
    exact h1
  · unfold maxLen; omega
  · exact Nat.le_trans (Nat.mul_le_mul_left _ hz2) (small1 (by omega))
  · intro v' w' h2 h3 _
    refine hK v' w' ?_ ((Below.refl B w).grown h3 hB (fun j e => (hown.lt j e))) h3
    show w'.ownsRow B 32 1 v' (hs ++ [hd]).length ((hs ++ [hd]).flatMap one)
    rw [List.length_append, List.flatMap_append]; exact h2
theorem below_aa (w : World) (x y : Obj) : Below w.heap.size w ((w.alloc x).alloc y) := ((Below.refl _ w).alloc (Nat.le_refl _) x).alloc (by simp) y
theorem below_aad (w : World) (x y : Obj) : Below w.heap.size w ((w.alloc x).alloc y).drew := (below_aa w x y).drew
theorem below_daa (w : World) (x y : Obj) : Below w.heap.size w ((w.drew.alloc x).alloc y) := ((Below.refl _ w).drew.alloc (Nat.le_refl _) x).alloc (by simp) y
def vS (s : ByteArray) (i : Nat) : Vl := ⟨2, 0, s.extract i (i + 1), 0, 0, 0, 0, 0, 0, 0, 0, ext_small s i⟩
def vInt (n : Int) : Vl := ⟨1, n, ⟨#[]⟩, 0, 0, 0, 0, 0, 0, 0, 0, by decide⟩
def cK : Cl := ⟨⟨#[107]⟩, 2, by decide⟩
def cN : Cl := ⟨⟨#[110]⟩, 1, by decide⟩
def rowS (s : ByteArray) (ns : List Int) (i : Nat) : Rw := [vS s i, vInt ns[i]!]
def encI (n : Int) : List Value := [.int .i64 n]
end Go.Proofs.YtlbjbkhcnafhcaaGreat
