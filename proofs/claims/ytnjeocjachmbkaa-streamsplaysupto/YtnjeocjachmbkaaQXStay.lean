/-
  What StreamsStay returns, for any streams.
-/
import Derived.Test.YtnjeocjachmbkaaQXLaw
namespace Go.Proofs.Ytnjeocjachmbkaa
open Go.RowKit Go.Sort Go.Maps Go.Shelf

theorem Dk.le {B B' : Nat} {P : Nat → Prop} {w : World} {b : Nat} {most : Int} {sv : Value} {m : Nat} {l : List Sm} (h : Dk B P w b most sv m l) (hb : B' ≤ B) : Dk B' P w b most sv m l := by
  obtain ⟨hs, ho, hh⟩ := h.row
  exact ⟨Nat.le_trans hb h.bB, Nat.le_trans hb h.mB, h.blk, ⟨hs, own_le ho hb, hh⟩, h.map, h.dc⟩
/- Blocks that are neither a dictionary's nor a row of its streams stay. -/
def Fk (w w' : World) : Prop := ∀ (k : Nat) (cs : Array Value) (t : TypeId) (fz : Nat × Nat), w.heap[k]? = some (.cells cs t fz) → t ≠ 80 → t ≠ 83 → w'.heap[k]? = some (.cells cs t fz)
theorem own_fk {α : Type} {enc : α → List Value} {k e B : Nat} {w w' : World} {v : Value} {xs : List α} (h : Own enc k e B w v xs) (hf : Fk w w') (h1 : e ≠ 80) (h2 : e ≠ 83) : Own enc k e B w' v xs := by
  refine ⟨h.1, ?_⟩
  rcases h.2 with h0 | ⟨g, cap, cur, hv, hg, hblk, hc⟩
  · exact .inl h0
  · exact .inr ⟨g, cap, cur, hv, hg, hf _ _ _ _ hblk h1 h2, hc⟩
theorem Fk.on {w w' : World} (h : Below w.heap.size w w') : Fk w w' := fun _ _ _ _ hk _ _ => block_on hk h
theorem Fk.trans {a b c : World} (h : Fk a b) (k : Fk b c) : Fk a c := fun i cs t fz hi h1 h2 => k i cs t fz (h i cs t fz hi h1 h2) h1 h2
theorem add_fs {B : Nat} {w : World} {b : Nat} {most : Int} {m : Nat} {l l' : List Sm} {v : Value} {s : Sm} {i e0 : Int} (h : ∃ sv, Dk B any w b most sv m l) (hv : RowAt w v s.ks) (hz : Sz s)
    (hlen : l.length ≤ 1000) (hB : B ≤ w.heap.size) (hf : addL most l s = l' ∧ addI most l s = i ∧ addE most l s = e0) : Calls Try.prog 15 #[dp b, .string s.nm, v] w fun e w' => e = .returned (.tuple #[.int .i64 i, .int .i64 e0]) ∧ (∃ sv', Dk B any w' b most sv' m l') ∧ Below B w w' ∧ Fk w w' := by
  obtain ⟨sv, h⟩ := h
  obtain ⟨h1, h2, h3⟩ := hf
  refine (add_any h hv hz.ks hz.nm hz.rng hlen (fun _ _ => trivial) hB).mono ?_
  rintro e w' ⟨rfl, hd, hk⟩
  rw [h1] at hd
  rw [h2, h3]
  exact ⟨rfl, hd, hk.below hB h.T_ge, fun k cs t fz hk' h80 h83 => hk.blk hk' (h.T_not hk' h80 h83)⟩
/- A dictionary stays while a row of another kind grows. -/
theorem Dk.beside {α : Type} {enc : α → List Value} {q e B B' : Nat} {P : Nat → Prop} {w w' : World} {b : Nat} {most : Int} {sv v : Value} {m : Nat} {l : List Sm} {xs : List α} (h : Dk B P w b most sv m l) (ho : Own enc q e B' w v xs) (hg : w.grownBy w' v.ownBlock) (h1 : e ≠ 80) (h2 : e ≠ 83) (h3 : e ≠ 25) : Dk B P w' b most sv m l := by
  have hk : Kp (fun k => v.ownBlock = some k) w w' := Kp.grown hg (fun k e => e)
  refine h.kp hk (fun e' => ?_) (fun g hg' e' => ?_) (fun e' => ?_) (fun k hk e' => ?_)
  · obtain ⟨c, f, hc⟩ := own_kind ho e'
    rw [h.blk] at hc; cases hc; exact h1 rfl
  · obtain ⟨c, f, hc⟩ := own_kind ho e'
    obtain ⟨hs, ho', hh⟩ := h.row
    obtain ⟨c', f', hc'⟩ := own_kind ho' hg'
    rw [hc'] at hc; cases hc; exact h2 rfl
  · obtain ⟨c, f, hc⟩ := own_kind ho e'
    obtain ⟨D, hD, ha⟩ := h.map
    obtain ⟨es, c', hb⟩ := map_blk hD
    rw [hb] at hc; cases hc
  · obtain ⟨c, f, hc⟩ := own_kind ho e'
    obtain ⟨-, c', f', hc'⟩ := hk
    rw [hc'] at hc; cases hc; exact h3 rfl
theorem dkE_beside {α : Type} {enc : α → List Value} {q e B B' : Nat} {w w' : World} {b : Nat} {most : Int} {v : Value} {m : Nat} {l : List Sm} {xs : List α} (h : ∃ sv, Dk B any w b most sv m l) (ho : Own enc q e B' w v xs) (hg : w.grownBy w' v.ownBlock) (h1 : e ≠ 80) (h2 : e ≠ 83) (h3 : e ≠ 25) : ∃ sv, Dk B any w' b most sv m l := let ⟨sv, h⟩ := h; ⟨sv, h.beside ho hg h1 h2 h3⟩
theorem own_below {α : Type} {enc : α → List Value} {q e B : Nat} {w w' : World} {v : Value} {xs : List α} (ho : Own enc q e B w v xs) (hg : w.grownBy w' v.ownBlock) (hB : B ≤ w.heap.size) : Below B w w' := (Below.refl B w).grown hg hB (fun _ hj => (own_at ho hj).1)
theorem take_snoc {L : List Sm} {k : Nat} {s : Sm} (h : L[k]? = some s) : L.take (k + 1) = L.take k ++ [s] := by rw [List.take_add_one, h]; rfl
theorem idsL_len (L : List Sm) : (idsL L).length = L.length := by unfold idsL; rw [List.length_map]
theorem same_is {u v : Value} {r q : Rw} {w : World} {c : Bool} (hu : RowAt w u r) (hv : RowAt w v q) (h : decide (r = q) = c) : Calls Try.prog 23 #[u, v] w fun e w' => e = .returned (.bool c) ∧ Below w.heap.size w w' := by rw [← h]; exact same_any hu hv
theorem find_fs {B : Nat} {w : World} {b : Nat} {most : Int} {m : Nat} {l : List Sm} {v : Value} {s : Sm} {i : Int} {e0 : Bool} (h : ∃ sv, Dk B any w b most sv m l) (hv : RowAt w v s.ks) (hz : Sz s)
    (hf : findI l s = i ∧ memS l s = e0) : Calls Try.prog 16 #[dp b, .string s.nm, v] w fun e w' => e = .returned (.tuple #[.int .i64 i, .bool e0]) ∧ Below w.heap.size w w' := find_is h hv hz.ks hz.nm hz.rng hf
theorem dkE_dc {B : Nat} {w : World} {b : Nat} {most : Int} {m : Nat} {l : List Sm} (h : ∃ sv, Dk B any w b most sv m l) : Dc l := let ⟨_, h⟩ := h; h.dc
/- What is found of the j-th. -/
def fnd (L : List Sm) (s : Sm) : Int × Bool := if okK s.ks then (idF (dictL 100 L) s, true) else (0, false)
theorem fnd_is {L : List Sm} {s : Sm} (hA : allIn L) (hd : Dc (dictL 100 L)) (hs : s ∈ L) : findI (dictL 100 L) s = (fnd L s).1 ∧ memS (dictL 100 L) s = (fnd L s).2 := by
  cases hok : okK s.ks with
  | true =>
    have hm := hA s hs hok
    simp [fnd, hok, findI, memS, hm, idF]
  | false =>
    rw [findI_bad hd hok, memS_bad hd hok]
    simp [fnd, hok]
theorem idsL_get {L : List Sm} {j : Nat} {s : Sm} (h : L[j]? = some s) : (idsL L)[j]? = some (idF (dictL 100 L) s) := by
  unfold idsL; rw [List.getElem?_map, h]; rfl
theorem idF_ok {F : List Sm} {s : Sm} (h : okK s.ks = true) : ∃ q : Nat, idF F s = (q : Int) ∧ posS s F = q := ⟨_, by unfold idF; rw [h]; rfl, rfl⟩
theorem idF_no {F : List Sm} {s : Sm} (h : okK s.ks = false) : idF F s = -1 := by unfold idF; rw [h]; rfl
theorem alike_is {F : List Sm} {s t : Sm} (hs : s ∈ F) (ht : t ∈ F) : (((posS s F : Nat) : Int) == ((posS t F : Nat) : Int)) = decide (t = s) := by
  have := pos_inj hs ht
  by_cases e : t = s
  · subst e; simp
  · have : ¬ posS s F = posS t F := fun h => e (this.1 h).symm
    simp [e]; omega
theorem sm_dec {s t : Sm} (h : s.nm = t.nm) : decide (s.ks = t.ks) = decide (s = t) := by
  cases s; cases t; simp at h; subst h; simp
set_option maxRecDepth 100000 in
set_option maxHeartbeats 4000000 in
theorem stay_any {v : Value} {L : List Sm} {w : World} (h : LsAt w v L) : Calls Try.prog 5 #[v] w fun e w' => e = .returned (.bool true) ∧ Below w.heap.size w w' := by
  obtain ⟨p, c, rfl, hcap, hx⟩ := h.sl
  have HX := hid hx
  have HSz := hid h.sz
  have hml := h.ml
  clear hx h
  generalize hn : L.length = n at *
  have HN := hid hn
  clear hn
  go_enter Try.func5, Try.ntmps5
  go_wp2_with (first
    | (go_at_call 12; refine shown_any.mono ?_; rintro e w0 ⟨rfl, hb0⟩; have HB0 := hid hb0; clear hb0)
    | (go_at_call 13; refine (new_any (P := any)).mono ?_; rintro e w1 ⟨b, m, rfl, hd, hb1⟩; have HD1 : Hid (∃ sv, Dk w.heap.size any w1 b 100 sv m []) := ⟨_, hd.le HB0.out.size⟩; have HB1 := hid (HB0.out.trans (hb1.mono HB0.out.size)); clear hd hb1))
  go_loopw [5, 6] (fun ids i wr => ∃ k : Nat, (k ≤ n ∧ k ≤ 100) ∧ i = .int .i64 k ∧ Hid (∃ sv, Dk w.heap.size any wr b 100 sv m (dictL 100 (L.take k))) ∧ Hid (Own encI 1 3 w.heap.size wr ids (idsL (L.take k))) ∧ Hid (allIn (L.take k)) ∧ Hid (Below w.heap.size w wr)) (fun _ i _ => 100 - (intOf i).toNat)
  case atStart => exact ⟨0, by omega, rfl, dkE_on HD1.out ((Below.refl _ _).alloc (Nat.le_refl _) _), Own.made encI 1 3 _ _ HB1.out.size, (fun s hs => by cases hs), HB1.out.alloc HB1.out.size _⟩
  case round =>
    obtain ⟨k, hk, rfl, HD, HO, HA, HB⟩ := hrel
    by_cases hlt : k < n ∧ k < 100
    · obtain ⟨hlt, h100⟩ := hlt
      have hk' : k < L.length := by rw [HN.out]; exact hlt
      obtain ⟨s, hs⟩ : ∃ s, L[k]? = some s := ⟨L[k], List.getElem?_eq_getElem hk'⟩
      obtain ⟨g, o, kp, kc, rfl, c0, c1, hr⟩ := HX.out k s hs
      have hg := block_lt_of_cell c0
      have HS := hid (⟨c0, c1⟩ : K2 g (o + k * 2) s.nm (.slice kp (List.length s.ks) kc) w)
      have hS0 := k2On HS.out hg HB.out
      have HR := hid hr
      have HZ := hid (HSz.out s (List.mem_of_getElem? hs))
      have HT := hid (take_snoc hs)
      have HL : Hid ((L.take k).length < 100) := by show _ < _; rw [List.length_take]; omega
      have HDl := hid (Nat.lt_of_le_of_lt (dictL_len 100 (L.take k)) HL.out)
      have HE := hid (addE_100 (s := s) HL.out)
      have HI := hid (idsL_step (s := s) HA.out HL.out)
      clear hs c0 c1 hr hg
      generalize hns : List.length s.ks = ns at *
      have HNS := hid hns
      clear hns
      cases hok : okK s.ks with
      | true =>
        rw [hok] at HE HI
        rw [if_pos rfl] at HE HI
        go_wp2_with fail
        go_region_held3 (K2 g (o + k * 2) s.nm (.slice kp ns kc)) (((repeat (first | (with_reducible refine k2D ?_))); (with_reducible assumption)))
          (first
          | (refine step_call3 (v := dp b) (v2 := .string s.nm) (v3 := .slice kp ns kc) rfl (.tmp 34) (.tmp 39) (.tmp 44) 34 9 40 rfl (by simp [Act.eval]) (by simp [Act.eval]) (by simp [Act.eval]) enters15 ?_; refine (add_fs (l' := dictL 100 (L.take (k + 1))) (s := s) (dkE_on HD.out (Below.refl _ _).drew) (HR.out.on HB.out.drew) HZ.out (by have := HDl.out; omega) HB.out.drew.size ⟨by rw [HT.out, dictL_snoc], rfl, HE.out⟩).mono ?_; rintro e w3 ⟨rfl, hd3, hb3, hf3⟩; refine ⟨_, rfl, ?_⟩; have HO3 : Hid (Own encI 1 3 w.heap.size w3 u5 (idsL (L.take k))) := own_fk HO.out ((Fk.on (Below.refl _ _).drew).trans hf3) (by decide) (by decide); have HD3 := hid hd3; have HB3 : Hid (Below w.heap.size wr w3) := ((Below.refl _ _).drew).trans hb3; have hS3 := k2On hS0 (block_lt_of_cell HS.out.1) HB3.out; clear hd3 hb3 hf3 hS0))
        clear hS3
        go_wp2_with (at_builtin; refine app_N elem3.N enci_len (fun x _ => enci_cells x) rfl _ _ rfl rfl (own_kp (T := fun _ => False) HO3.out (Kp.of ((Below.refl _ _).alloc (Nat.le_refl _) _)) (fun _ _ => id)) rfl int1 (bs1 (by have := HL.out; rw [idsL_len]; simp; omega)) (by decide) (by have := HB.out.size; have := HB3.out.size; simp; omega) ?_; intro v4 w4 hown4 hg4)
        have hoa := own_kp (T := fun _ => False) HO3.out (Kp.of ((Below.refl w3.heap.size w3).alloc (Nat.le_refl _) (.cells #[.int .i64 (addI 100 (dictL 100 (L.take k)) s)] 3))) (fun _ _ => id)
        go_roundw
        case rel => exact ⟨k + 1, by omega, by go_num, dkE_beside (dkE_on HD3.out ((Below.refl _ _).alloc (Nat.le_refl _) _)) hoa hg4 (by decide) (by decide) (by decide), by rw [HT.out, HI.out]; exact hown4, by rw [HT.out]; exact allIn_step HA.out HL.out, HB.out.trans (HB3.out.trans (((Below.refl _ _).alloc (Nat.le_trans HB.out.size HB3.out.size) _).trans (own_below hoa hg4 (by have := HB.out.size; have := HB3.out.size; simp; omega))))⟩
        case measure => simp [intOf]; omega
      | false =>
        rw [hok] at HE HI
        rw [if_neg (by decide)] at HE HI
        go_wp2_with fail
        go_region_held3 (K2 g (o + k * 2) s.nm (.slice kp ns kc)) (((repeat (first | (with_reducible refine k2D ?_))); (with_reducible assumption)))
          (first
          | (refine step_call3 (v := dp b) (v2 := .string s.nm) (v3 := .slice kp ns kc) rfl (.tmp 34) (.tmp 39) (.tmp 44) 34 9 40 rfl (by simp [Act.eval]) (by simp [Act.eval]) (by simp [Act.eval]) enters15 ?_; refine (add_fs (l' := dictL 100 (L.take (k + 1))) (s := s) (dkE_on HD.out (Below.refl _ _).drew) (HR.out.on HB.out.drew) HZ.out (by have := HDl.out; omega) HB.out.drew.size ⟨by rw [HT.out, dictL_snoc], rfl, HE.out⟩).mono ?_; rintro e w3 ⟨rfl, hd3, hb3, hf3⟩; refine ⟨_, rfl, ?_⟩; have HO3 : Hid (Own encI 1 3 w.heap.size w3 u5 (idsL (L.take k))) := own_fk HO.out ((Fk.on (Below.refl _ _).drew).trans hf3) (by decide) (by decide); have HD3 := hid hd3; have HB3 : Hid (Below w.heap.size wr w3) := ((Below.refl _ _).drew).trans hb3; have hS3 := k2On hS0 (block_lt_of_cell HS.out.1) HB3.out; clear hd3 hb3 hf3 hS0))
        clear hS3
        go_wp2_with (at_builtin; refine app_N elem3.N enci_len (fun x _ => enci_cells x) rfl _ _ rfl rfl (own_kp (T := fun _ => False) HO3.out (Kp.of ((Below.refl _ _).alloc (Nat.le_refl _) _)) (fun _ _ => id)) rfl int1 (bs1 (by have := HL.out; rw [idsL_len]; simp; omega)) (by decide) (by have := HB.out.size; have := HB3.out.size; simp; omega) ?_; intro v4 w4 hown4 hg4)
        have hoa := own_kp (T := fun _ => False) HO3.out (Kp.of ((Below.refl w3.heap.size w3).alloc (Nat.le_refl _) (.cells #[.int .i64 (-1)] 3))) (fun _ _ => id)
        go_roundw
        case rel => exact ⟨k + 1, by omega, by go_num, dkE_beside (dkE_on HD3.out ((Below.refl _ _).alloc (Nat.le_refl _) _)) hoa hg4 (by decide) (by decide) (by decide), by rw [HT.out, HI.out]; exact hown4, by rw [HT.out]; exact allIn_step HA.out HL.out, HB.out.trans (HB3.out.trans (((Below.refl _ _).alloc (Nat.le_trans HB.out.size HB3.out.size) _).trans (own_below hoa hg4 (by have := HB.out.size; have := HB3.out.size; simp; omega))))⟩
        case measure => simp [intOf]; omega

    · obtain ⟨K0, hK0⟩ : ∃ K0, K0 = k := ⟨k, rfl⟩
      subst hK0
      obtain ⟨W1, hW1⟩ : ∃ W, W = wr := ⟨wr, rfl⟩
      subst hW1
      rcases (show ¬ K0 < n ∨ (K0 < n ∧ ¬ K0 < 100) by omega) with h1 | ⟨h1, h2⟩
      all_goals
        have hka : (L.take K0).length = K0 := by rw [List.length_take, HN.out]; omega
        have HKA := hid hka
        have HI0 : Hid (IntsAt W1 u5 (idsL (L.take K0))) := (Own.sl HO.out enci_len (bs1 (by rw [idsL_len, hka]; omega))).imp (fun _ _ => trivial)
        obtain ⟨pI, cI, rfl⟩ := own_formN (n := K0) HO.out (by rw [idsL_len, hka])
        have HDc := hid (dkE_dc HD.out)
        have hK100 : K0 ≤ 100 := hk.2
        have hKn : K0 ≤ n := hk.1
        have hiC : K0 ≤ cI := by obtain ⟨p', c', hv', hc', -⟩ := HI0.out; rw [idsL_len, HKA.out] at hc' hv'; injection hv' with _ _ h3; rw [h3]; exact hc'.1
        clear HO hka
        go_wp2
        go_loopw [9] (fun i w2 => ∃ j : Nat, j ≤ K0 ∧ i = .int .i64 j ∧ Hid (Below W1.heap.size W1 w2)) (fun i _ => K0 - (intOf i).toNat)
        case atStart => exact ⟨0, by omega, rfl, Below.refl _ _⟩
        case round =>
          obtain ⟨j, hj, rfl, HB2⟩ := hrel
          obtain ⟨w2, hw2⟩ : ∃ W, W = wr := ⟨wr, rfl⟩
          subst hw2
          by_cases hjl : j < K0
          · have hjL : j < L.length := by rw [HN.out]; omega
            obtain ⟨s, hs⟩ : ∃ s, L[j]? = some s := ⟨L[j], List.getElem?_eq_getElem hjL⟩
            obtain ⟨g, o, kp, kc, rfl, c0, c1, hr⟩ := HX.out j s hs
            have hst : (L.take K0)[j]? = some s := by rw [List.getElem?_take, if_pos hjl]; exact hs
            have hsm := List.mem_of_getElem? hst
            have HW2 := hid (HB.out.trans (HB2.out.mono HB.out.size))
            have d0 := cell_onB c0 HW2.out
            have d1 := cell_onB c1 HW2.out
            have q0 := cell_regrown d0
            have q1 := cell_regrown d1
            have HR := hid (hr.on HW2.out)
            have HZ := hid (HSz.out s (List.mem_of_getElem? hs))
            have HF := hid (fnd_is HA.out HDc.out hsm)
            have HD2 := hid (dkE_on HD.out HB2.out)
            obtain ⟨gI, oI, rfl, e0⟩ := ints_cell (HI0.out.on HB2.out) (idsL_get hst)
            have HST := hid hst
            have HSM := hid hsm
            clear hs c0 c1 hr hst hsm
            generalize hns : List.length s.ks = ns at *
            have HNS := hid hns
            clear hns
            have HRg : ∀ d os, Hid (RowAt (grow (redrawn w2 d) os) (.slice kp ns kc) s.ks) := fun d os => HR.out.on (below_regrown w2 d os)
            have HDg : ∀ d os, Hid (∃ sv, Dk w.heap.size any (grow (redrawn w2 d) os) b 100 sv m (dictL 100 (L.take K0))) := fun d os => dkE_on HD2.out (below_regrown w2 d os)
            cases hok : okK s.ks with
            | true =>
              have HSF := hid (HA.out s HSM.out hok)
              obtain ⟨qj, hqj, hpj⟩ := idF_ok (F := dictL 100 (L.take K0)) hok
              have HPJ := hid hpj
              have HF' : Hid (findI (dictL 100 (L.take K0)) s = (qj : Int) ∧ memS (dictL 100 (L.take K0)) s = true) := by have := HF.out; unfold fnd at this; rw [hok, if_pos rfl, hqj] at this; exact this
              rw [hqj] at e0
              clear hqj hpj hok HF
              go_wp2_with fail
              refine wp_region_quiet_below (by kernel_rfl) (by kernel_rfl) ?_
              repeat (go_big_quiet_step (first | (go_at_call 16; exact Calls.regrown_of (find_fs (HDg _ _).out (HRg _ _).out HZ.out HF'.out))))
              refine wpQuiet_nil ?_
              intro _ hw'
              obtain ⟨⟨dq, osq⟩, hw''⟩ := hw'
              subst hw''
              have b0 := cell_onB d0 (below_regrown w2 dq osq)
              have b1 := cell_onB d1 (below_regrown w2 dq osq)
              have e0' := cell_onB e0 (below_regrown w2 dq osq)
              clear e0
              have e0 := e0'
              clear e0'
              have HR3 := hid (HR.out.on (below_regrown w2 dq osq))
              have HB3 := hid (HB2.out.trans ((below_regrown w2 dq osq).mono HB2.out.size))
              have HW3 := hid (HW2.out.trans ((below_regrown w2 dq osq).mono HW2.out.size))
              have HI3 := hid (HI0.out.on HB3.out)
              clear d0 d1 q0 q1 HRg HDg HR HD2
              generalize grow (redrawn w2 dq) osq = W3 at *
              go_wp2
              go_loopw [12] (fun q w4 => ∃ k : Nat, k ≤ j ∧ q = .int .i64 k ∧ Hid (Below W3.heap.size W3 w4)) (fun q _ => j - (intOf q).toNat)
              case atStart => exact ⟨0, by omega, rfl, Below.refl _ _⟩
              case round =>
                obtain ⟨k, hkj, rfl, HB4⟩ := hrel
                obtain ⟨w4, hw4⟩ : ∃ W, W = wr := ⟨wr, rfl⟩
                subst hw4
                by_cases hkl : k < j
                · have hkL : k < L.length := by rw [HN.out]; omega
                  obtain ⟨t, ht⟩ : ∃ t, L[k]? = some t := ⟨L[k], List.getElem?_eq_getElem hkL⟩
                  obtain ⟨g', o', kp', kc', hpe, c0, c1, hr⟩ := HX.out k t ht
                  cases hpe
                  have htt : (L.take K0)[k]? = some t := by rw [List.getElem?_take, if_pos (by omega)]; exact ht
                  have htm := List.mem_of_getElem? htt
                  have HW4 := hid (HW3.out.trans (HB4.out.mono HW3.out.size))
                  have t0 := cell_onB c0 HW4.out
                  have t1 := cell_onB c1 HW4.out
                  have u0 := cell_onB b0 HB4.out
                  have u1 := cell_onB b1 HB4.out
                  have v0 := cell_regrown u0
                  have v1 := cell_regrown u1
                  have e1 := cell_onB e0 HB4.out
                  have HTM := hid (HA.out t htm)
                  obtain ⟨gJ, oJ, hpj, f1⟩ := ints_cell ((HI3.out.on HB4.out)) (idsL_get htt)
                  cases hpj
                  have HTR := hid (hr.on HW4.out)
                  have HSR := hid (HR3.out.on HB4.out)
                  clear ht c0 c1 hr htt htm
                  generalize hnt : List.length t.ks = nt at *
                  have HNT := hid hnt
                  clear hnt
                  have HTg : ∀ d os, Hid (RowAt (grow (redrawn w4 d) os) (.slice kp' nt kc') t.ks) := fun d os => HTR.out.on (below_regrown w4 d os)
                  have HSg : ∀ d os, Hid (RowAt (grow (redrawn w4 d) os) (.slice kp ns kc) s.ks) := fun d os => HSR.out.on (below_regrown w4 d os)
                  cases hokt : okK t.ks with
                  | true =>
                    obtain ⟨qt, hqt, hpt⟩ := idF_ok (F := dictL 100 (L.take K0)) hokt
                    rw [hqt] at f1
                    have hab := alike_is (F := dictL 100 (L.take K0)) (s := s) (t := t) HSF.out (HTM.out hokt)
                    rw [hpt, HPJ.out] at hab
                    clear hqt hpt hokt
                    by_cases hnm : t.nm = s.nm
                    · have HAL := hid (sm_dec hnm)
                      generalize hal : decide (t = s) = al at *
                      have HALD := hid hal
                      rw [hnm] at t0
                      clear hnm hal
                      have r0 := cell_regrown t0
                      have r1 := cell_regrown t1
                      go_wp2_with fail
                      refine wp_region_quiet_below (by kernel_rfl) (by kernel_rfl) ?_
                      repeat (go_big_quiet_step (first | (go_at_call 23; exact Calls.regrown_of (same_is (HTg _ _).out (HSg _ _).out HAL.out))))
                      refine wpQuiet_nil ?_
                      intro _ hw'
                      obtain ⟨⟨dr, osr⟩, hw''⟩ := hw'
                      subst hw''
                      have e1' := cell_onB e1 (below_regrown w4 dr osr)
                      have f1' := cell_onB f1 (below_regrown w4 dr osr)
                      clear r0 r1 t0 t1 u0 u1 v0 v1 e1 f1
                      have HB5 := hid (HB4.out.trans ((below_regrown w4 dr osr).mono HB4.out.size))
                      generalize grow (redrawn w4 dr) osr = w5 at *
                      go_wp2_with fail
                      go_quiet (fail)
                      go_wp2
                      go_roundw
                      case rel => exact ⟨k + 1, by omega, by go_num, below_drewN HB5.out _⟩
                      case measure => simp [intOf]; omega
                    · have hne : (t.nm.toList == s.nm.toList) = false := by rw [bytes_beq]; simpa using hnm
                      have HALD : Hid (decide (t = s) = false) := decide_eq_false (fun e => hnm (by rw [e]))
                      clear hnm
                      have r0 := cell_regrown t0
                      have r1 := cell_regrown t1
                      go_wp2_with fail
                      refine wp_region_quiet_below (by kernel_rfl) (by kernel_rfl) ?_
                      repeat (go_big_quiet_step (fail))
                      refine wpQuiet_nil ?_
                      intro _ hw'
                      obtain ⟨⟨dr, osr⟩, hw''⟩ := hw'
                      subst hw''
                      rw [HALD.out] at hab
                      have e1' := cell_onB e1 (below_regrown w4 dr osr)
                      have f1' := cell_onB f1 (below_regrown w4 dr osr)
                      clear r0 r1 t0 t1 u0 u1 v0 v1 e1 f1
                      have HB5 := hid (HB4.out.trans ((below_regrown w4 dr osr).mono HB4.out.size))
                      generalize grow (redrawn w4 dr) osr = w5 at *
                      go_wp2_with fail
                      go_quiet (fail)
                      go_wp2
                      go_roundw
                      case rel => exact ⟨k + 1, by omega, by go_num, below_drewN HB5.out _⟩
                      case measure => simp [intOf]; omega
                  | false =>
                    rw [idF_no hokt] at f1
                    clear hokt
                    by_cases hnm : t.nm = s.nm
                    · have HAL := hid (sm_dec hnm)
                      generalize hal : decide (t = s) = al at *
                      have HALD := hid hal
                      rw [hnm] at t0
                      clear hnm hal
                      have r0 := cell_regrown t0
                      have r1 := cell_regrown t1
                      go_wp2_with fail
                      refine wp_region_quiet_below (by kernel_rfl) (by kernel_rfl) ?_
                      repeat (go_big_quiet_step (first | (go_at_call 23; exact Calls.regrown_of (same_is (HTg _ _).out (HSg _ _).out HAL.out))))
                      refine wpQuiet_nil ?_
                      intro _ hw'
                      obtain ⟨⟨dr, osr⟩, hw''⟩ := hw'
                      subst hw''
                      have e1' := cell_onB e1 (below_regrown w4 dr osr)
                      have f1' := cell_onB f1 (below_regrown w4 dr osr)
                      clear r0 r1 t0 t1 u0 u1 v0 v1 e1 f1
                      have HB5 := hid (HB4.out.trans ((below_regrown w4 dr osr).mono HB4.out.size))
                      generalize grow (redrawn w4 dr) osr = w5 at *
                      go_wp2_with fail
                      go_quiet (fail)
                      go_wp2
                      go_roundw
                      case rel => exact ⟨k + 1, by omega, by go_num, below_drewN HB5.out _⟩
                      case measure => simp [intOf]; omega
                    · have hne : (t.nm.toList == s.nm.toList) = false := by rw [bytes_beq]; simpa using hnm
                      have HALD : Hid (decide (t = s) = false) := decide_eq_false (fun e => hnm (by rw [e]))
                      clear hnm
                      have r0 := cell_regrown t0
                      have r1 := cell_regrown t1
                      go_wp2_with fail
                      refine wp_region_quiet_below (by kernel_rfl) (by kernel_rfl) ?_
                      repeat (go_big_quiet_step (fail))
                      refine wpQuiet_nil ?_
                      intro _ hw'
                      obtain ⟨⟨dr, osr⟩, hw''⟩ := hw'
                      subst hw''
                      have e1' := cell_onB e1 (below_regrown w4 dr osr)
                      have f1' := cell_onB f1 (below_regrown w4 dr osr)
                      clear r0 r1 t0 t1 u0 u1 v0 v1 e1 f1
                      have HB5 := hid (HB4.out.trans ((below_regrown w4 dr osr).mono HB4.out.size))
                      generalize grow (redrawn w4 dr) osr = w5 at *
                      go_wp2_with fail
                      go_quiet (fail)
                      go_wp2
                      go_roundw
                      case rel => exact ⟨k + 1, by omega, by go_num, below_drewN HB5.out _⟩
                      case measure => simp [intOf]; omega
                · have hkk : k = j := by omega
                  subst hkk
                  go_wp2
                  go_roundw
                  case rel => exact ⟨k + 1, by omega, by go_num, HB3.out.trans (HB4.out.mono HB3.out.size)⟩
                  case measure => simp [intOf]; omega
            | false =>
              have HF' : Hid (findI (dictL 100 (L.take K0)) s = 0 ∧ memS (dictL 100 (L.take K0)) s = false) := by have := HF.out; unfold fnd at this; rw [hok, if_neg (by decide)] at this; exact this
              rw [idF_no hok] at e0
              clear hok HF
              go_wp2_with fail
              refine wp_region_quiet_below (by kernel_rfl) (by kernel_rfl) ?_
              repeat (go_big_quiet_step (first | (go_at_call 16; exact Calls.regrown_of (find_fs (HDg _ _).out (HRg _ _).out HZ.out HF'.out))))
              refine wpQuiet_nil ?_
              intro _ hw'
              obtain ⟨⟨dq, osq⟩, hw''⟩ := hw'
              subst hw''
              have b0 := cell_onB d0 (below_regrown w2 dq osq)
              have b1 := cell_onB d1 (below_regrown w2 dq osq)
              have e0' := cell_onB e0 (below_regrown w2 dq osq)
              clear e0
              have e0 := e0'
              clear e0'
              have HR3 := hid (HR.out.on (below_regrown w2 dq osq))
              have HB3 := hid (HB2.out.trans ((below_regrown w2 dq osq).mono HB2.out.size))
              have HW3 := hid (HW2.out.trans ((below_regrown w2 dq osq).mono HW2.out.size))
              have HI3 := hid (HI0.out.on HB3.out)
              clear d0 d1 q0 q1 HRg HDg HR HD2
              generalize grow (redrawn w2 dq) osq = W3 at *
              go_wp2
              go_loopw [12] (fun q w4 => ∃ k : Nat, k ≤ j ∧ q = .int .i64 k ∧ Hid (Below W3.heap.size W3 w4)) (fun q _ => j - (intOf q).toNat)
              case atStart => exact ⟨0, by omega, rfl, Below.refl _ _⟩
              case round =>
                obtain ⟨k, hkj, rfl, HB4⟩ := hrel
                obtain ⟨w4, hw4⟩ : ∃ W, W = wr := ⟨wr, rfl⟩
                subst hw4
                by_cases hkl : k < j
                · have hkL : k < L.length := by rw [HN.out]; omega
                  obtain ⟨t, ht⟩ : ∃ t, L[k]? = some t := ⟨L[k], List.getElem?_eq_getElem hkL⟩
                  obtain ⟨g', o', kp', kc', hpe, c0, c1, hr⟩ := HX.out k t ht
                  cases hpe
                  have htt : (L.take K0)[k]? = some t := by rw [List.getElem?_take, if_pos (by omega)]; exact ht
                  have htm := List.mem_of_getElem? htt
                  have HW4 := hid (HW3.out.trans (HB4.out.mono HW3.out.size))
                  have t0 := cell_onB c0 HW4.out
                  have t1 := cell_onB c1 HW4.out
                  have u0 := cell_onB b0 HB4.out
                  have u1 := cell_onB b1 HB4.out
                  have v0 := cell_regrown u0
                  have v1 := cell_regrown u1
                  have e1 := cell_onB e0 HB4.out
                  have HTR := hid (hr.on HW4.out)
                  have HSR := hid (HR3.out.on HB4.out)
                  clear ht c0 c1 hr htt htm
                  generalize hnt : List.length t.ks = nt at *
                  have HNT := hid hnt
                  clear hnt
                  have HTg : ∀ d os, Hid (RowAt (grow (redrawn w4 d) os) (.slice kp' nt kc') t.ks) := fun d os => HTR.out.on (below_regrown w4 d os)
                  have HSg : ∀ d os, Hid (RowAt (grow (redrawn w4 d) os) (.slice kp ns kc) s.ks) := fun d os => HSR.out.on (below_regrown w4 d os)
                  by_cases hnm : t.nm = s.nm
                  · have HAL := hid (sm_dec hnm)
                    generalize hal : decide (t = s) = al at *
                    have HALD := hid hal
                    rw [hnm] at t0
                    clear hnm hal
                    have r0 := cell_regrown t0
                    have r1 := cell_regrown t1
                    go_wp2_with fail
                    refine wp_region_quiet_below (by kernel_rfl) (by kernel_rfl) ?_
                    repeat (go_big_quiet_step (first | (go_at_call 23; exact Calls.regrown_of (same_is (HTg _ _).out (HSg _ _).out HAL.out))))
                    refine wpQuiet_nil ?_
                    intro _ hw'
                    obtain ⟨⟨dr, osr⟩, hw''⟩ := hw'
                    subst hw''
                    have e1' := cell_onB e1 (below_regrown w4 dr osr)
                    clear r0 r1 t0 t1 u0 u1 v0 v1 e1
                    have HB5 := hid (HB4.out.trans ((below_regrown w4 dr osr).mono HB4.out.size))
                    generalize grow (redrawn w4 dr) osr = w5 at *
                    go_wp2_with fail
                    go_quiet (fail)
                    go_wp2
                    go_roundw
                    case rel => exact ⟨k + 1, by omega, by go_num, below_drewN HB5.out _⟩
                    case measure => simp [intOf]; omega
                  · have hne : (t.nm.toList == s.nm.toList) = false := by rw [bytes_beq]; simpa using hnm
                    have HALD : Hid (decide (t = s) = false) := decide_eq_false (fun e => hnm (by rw [e]))
                    clear hnm
                    have r0 := cell_regrown t0
                    have r1 := cell_regrown t1
                    go_wp2_with fail
                    refine wp_region_quiet_below (by kernel_rfl) (by kernel_rfl) ?_
                    repeat (go_big_quiet_step (fail))
                    refine wpQuiet_nil ?_
                    intro _ hw'
                    obtain ⟨⟨dr, osr⟩, hw''⟩ := hw'
                    subst hw''
                    have e1' := cell_onB e1 (below_regrown w4 dr osr)
                    clear r0 r1 t0 t1 u0 u1 v0 v1 e1
                    have HB5 := hid (HB4.out.trans ((below_regrown w4 dr osr).mono HB4.out.size))
                    generalize grow (redrawn w4 dr) osr = w5 at *
                    go_wp2_with fail
                    go_quiet (fail)
                    go_wp2
                    go_roundw
                    case rel => exact ⟨k + 1, by omega, by go_num, below_drewN HB5.out _⟩
                    case measure => simp [intOf]; omega
                · have hkk : k = j := by omega
                  subst hkk
                  go_wp2
                  go_roundw
                  case rel => exact ⟨k + 1, by omega, by go_num, HB3.out.trans (HB4.out.mono HB3.out.size)⟩
                  case measure => simp [intOf]; omega
          · have hjk : j = K0 := by omega
            subst hjk
            go_wp2
            go_ret
            exact ⟨rfl, HB.out.trans (HB2.out.mono HB.out.size)⟩
end Go.Proofs.Ytnjeocjachmbkaa
