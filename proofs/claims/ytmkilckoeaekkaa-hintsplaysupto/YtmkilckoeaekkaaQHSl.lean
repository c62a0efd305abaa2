/-
  Slices that are handed in: columns, values, numbers; what join and addTexts of package hints do.
-/
import Derived.Test.YtmkilckoeaekkaaQStep
namespace Go.Proofs.Ytmkilckoeaekkaa
open Go.RowKit Go.Sort Go.Maps Go.Shelf

def CellsAt (w : World) (b o : Nat) (xs : List Value) : Prop := ∀ (j : Nat) u, xs[j]? = some u → w.cell? ⟨b, o + j, none⟩ = some u
/- A slice of elements of k cells each, in a block of which Q holds. -/
def SlAt {α : Type} (Q : Nat → Prop) (enc : α → List Value) (k : Nat) (w : World) (v : Value) (xs : List α) : Prop :=
  ∃ (p : Option Addr) (cap : Nat), v = .slice p xs.length cap ∧ (xs.length ≤ cap ∧ cap ≤ maxLen) ∧ (xs ≠ [] → ∃ b o, p = some ⟨b, o, none⟩ ∧ Q b ∧ ∀ (j : Nat) x, xs[j]? = some x → CellsAt w b (o + j * k) (enc x))
theorem CellsAt.kp {T : Nat → Prop} {w w' : World} {b o : Nat} {xs : List Value} (h : CellsAt w b o xs) (hk : Kp T w w') (ht : ¬ T b) : CellsAt w' b o xs := fun j u hj => hk.cell (h j u hj) ht
theorem SlAt.kp {α : Type} {Q T : Nat → Prop} {enc : α → List Value} {k : Nat} {w w' : World} {v : Value} {xs : List α} (h : SlAt Q enc k w v xs) (hk : Kp T w w') (ht : ∀ b, Q b → ¬ T b) : SlAt Q enc k w' v xs := by
  obtain ⟨p, cap, hv, hc, hx⟩ := h
  exact ⟨p, cap, hv, hc, fun hne => let ⟨b, o, hp, hQ, hj⟩ := hx hne; ⟨b, o, hp, hQ, fun j x hjx => (hj j x hjx).kp hk (ht b hQ)⟩⟩
theorem SlAt.on {α : Type} {Q : Nat → Prop} {enc : α → List Value} {k : Nat} {w w' : World} {v : Value} {xs : List α} (h : SlAt Q enc k w v xs) (hb : Below w.heap.size w w') : SlAt Q enc k w' v xs := h.kp (T := fun _ => False) (Kp.of hb) (fun _ _ => id)
theorem SlAt.imp {α : Type} {Q Q' : Nat → Prop} {enc : α → List Value} {k : Nat} {w : World} {v : Value} {xs : List α} (h : SlAt Q enc k w v xs) (hq : ∀ b, Q b → Q' b) : SlAt Q' enc k w v xs := by
  obtain ⟨p, cap, hv, hc, hx⟩ := h
  exact ⟨p, cap, hv, hc, fun hne => let ⟨b, o, hp, hQ, hj⟩ := hx hne; ⟨b, o, hp, hq b hQ, hj⟩⟩
theorem SlAt.form {α : Type} {Q : Nat → Prop} {enc : α → List Value} {k : Nat} {w : World} {v : Value} {xs : List α} (h : SlAt Q enc k w v xs) : ∃ p cap, v = .slice p xs.length cap ∧ xs.length ≤ cap ∧ cap ≤ maxLen := let ⟨p, cap, hv, hc, _⟩ := h; ⟨p, cap, hv, hc.1, hc.2⟩
theorem SlAt.at {α : Type} {Q : Nat → Prop} {enc : α → List Value} {k : Nat} {w : World} {p : Option Addr} {n cap : Nat} {xs : List α} (h : SlAt Q enc k w (.slice p n cap) xs) {j : Nat} {x : α} (hj : xs[j]? = some x) : ∃ b o, p = some ⟨b, o, none⟩ ∧ Q b ∧ CellsAt w b (o + j * k) (enc x) := by
  obtain ⟨p', cap', hv, _, hx⟩ := h
  cases hv
  obtain ⟨b, o, hp, hQ, hc⟩ := hx (by intro e; subst e; simp at hj)
  exact ⟨b, o, hp, hQ, hc j x hj⟩
/- A column; a value. -/
structure Cl where
  nm : ByteArray
  k : Int
def Cl.cells (c : Cl) : List Value := [.string c.nm, .int .i64 c.k]
structure Vl where
  k : Int
  n : Int
  s : ByteArray
  h0 : Int
  h1 : Int
  h2 : Int
  h3 : Int
  h4 : Int
  h5 : Int
  h6 : Int
  h7 : Int
def Vl.cells (v : Vl) : List Value := [.int .i64 v.k, .int .i64 v.n, .string v.s, .int .i64 v.h0, .int .i64 v.h1, .int .i64 v.h2, .int .i64 v.h3, .int .i64 v.h4, .int .i64 v.h5, .int .i64 v.h6, .int .i64 v.h7]
def setT (g : ByteArray → F256) (s : ByteArray) (F : F256) : ByteArray → F256 := setG g s (g s ||| F)
/- The first k texts of a point. -/
def addT (g : ByteArray → F256) (cols : List Cl) (vals : List Vl) : Nat → (ByteArray → F256)
  | 0 => g
  | k + 1 => match cols[k]?, vals[k]? with
    | some c, some v => if v.k = 2 then setT (addT g cols vals k) c.nm (wholeB v.s) else addT g cols vals k
    | _, _ => addT g cols vals k
def addG (g : ByteArray → F256) (cols : List Cl) (vals : List Vl) : ByteArray → F256 := addT g cols vals (min cols.length vals.length)
theorem addT_yes {g : ByteArray → F256} {cols : List Cl} {vals : List Vl} {k : Nat} {c : Cl} {v : Vl} (hc : cols[k]? = some c) (hv : vals[k]? = some v) (h : v.k = 2) : addT g cols vals (k + 1) = setT (addT g cols vals k) c.nm (wholeB v.s) := by
  rw [addT, hc, hv]; simp [h]
theorem addT_no {g : ByteArray → F256} {cols : List Cl} {vals : List Vl} {k : Nat} {c : Cl} {v : Vl} (hc : cols[k]? = some c) (hv : vals[k]? = some v) (h : ¬ v.k = 2) : addT g cols vals (k + 1) = addT g cols vals k := by
  rw [addT, hc, hv]; simp [h]
set_option maxHeartbeats 1000000 in
theorem jn_any {w : World} {m C : Nat} {g : ByteArray → F256} (h : Fm w m C g) (hC : C < maxLen) {s : ByteArray} (hs : s.size ≤ maxLen) (F : F256) :
    Calls Try.prog 27 #[mp m, .string s, B4 F] w fun e w' => e = .returned (.tuple #[]) ∧ Fm w' m (C + 1) (setT g s F) ∧ Kp (fun k => k = m) w w' := by
  have KB := hid (Fb.made w F)
  have HB : Hid (Below w.heap.size w (w.alloc (.cells (c4 F) 49 (0, 0)))) := (Below.refl _ _).alloc (Nat.le_refl _) _
  have HF := hid h
  have hl := (h.kp (Kp.of HB.out) (T := fun _ => False) id).look hs
  obtain ⟨G, hG⟩ : ∃ G, g s = G := ⟨_, rfl⟩
  obtain ⟨J, hJ⟩ : ∃ J, G ||| F = J := ⟨_, rfl⟩
  have HJ := hid hJ
  have HT : Hid (setT g s F = setG g s J) := by show _ = _; unfold setT; rw [hG, hJ]
  rw [hG] at hl
  clear hJ hG h
  have HC := hid hC
  have HS := hid hs
  clear hC hs
  go_enter Try.func27, Try.ntmps27
  go_wp2_with (go_at_call 33; refine (join_is HJ.out _).mono ?_; rintro e w1 ⟨rfl, hb⟩; replace HB := hid (below_on HB.out hb); clear hb; obtain ⟨w2, hr, hm, hg⟩ := (HF.out.kp (Kp.of HB.out) (T := fun _ => False) id).put HC.out HS.out J; have HM := hid hm; have HG := hid hg; clear hm hg)
  go_end0
  exact ⟨rfl, by rw [HT.out]; exact HM.out, (Kp.of HB.out).trans (Kp.grown HG.out (fun k e => by cases e; rfl))⟩
theorem whole_b {s : ByteArray} {F : F256} (hs : s.size ≤ 562949953421312) (hF : wholeB s = F) (w : World) : Calls Try.prog 31 #[.string s] w fun e w' => e = .returned (B4 F) ∧ Below w.heap.size w w' := whole_is hs hF w
/- Two cells that stay. -/
abbrev E2 (b1 o1 b2 o2 : Nat) (v1 v2 : Value) (w : World) : Prop := w.cell? ⟨b1, o1, none⟩ = some v1 ∧ w.cell? ⟨b2, o2, none⟩ = some v2
theorem e2D {b1 o1 b2 o2 : Nat} {v1 v2 : Value} {w : World} (h : E2 b1 o1 b2 o2 v1 v2 w) : E2 b1 o1 b2 o2 v1 v2 w.drew := h
theorem e2On {b1 o1 b2 o2 : Nat} {v1 v2 : Value} {w w' : World} (h : E2 b1 o1 b2 o2 v1 v2 w) (hb : Below w.heap.size w w') : E2 b1 o1 b2 o2 v1 v2 w' :=
  ⟨(hb.cell (p := ⟨b1, o1, none⟩) (block_lt_of_cell h.1)).trans h.1, (hb.cell (p := ⟨b2, o2, none⟩) (block_lt_of_cell h.2)).trans h.2⟩
set_option maxRecDepth 100000 in
set_option maxHeartbeats 2000000 in
theorem addTexts_any {w : World} {m C : Nat} {g : ByteArray → F256} {Q : Nat → Prop} {cv vv : Value} {cols : List Cl} {vals : List Vl} (h : Fm w m C g) (hC : C + cols.length < maxLen) (hc : SlAt Q Cl.cells 2 w cv cols) (hv : SlAt Q Vl.cells 11 w vv vals) (hQ : ¬ Q m)
    (h1 : ∀ c ∈ cols, c.nm.size ≤ maxLen) (h2 : ∀ v ∈ vals, v.s.size ≤ 562949953421312) :
    Calls Try.prog 24 #[mp m, cv, vv] w fun e w' => e = .returned (.tuple #[]) ∧ Fm w' m (C + cols.length) (addG g cols vals) ∧ Kp (fun k => k = m) w w' := by
  have HF := hid h
  have HC := hid hC
  have HCo := hid hc
  have HVa := hid hv
  have HQ := hid hQ
  have H1 := hid h1
  have H2 := hid h2
  obtain ⟨pc, cc, rfl, hc1, hc2⟩ := hc.form
  obtain ⟨pv, cw, rfl, hv1, hv2⟩ := hv.form
  clear h hC hc hv hQ h1 h2
  generalize hn1 : cols.length = n1 at *
  generalize hn2 : vals.length = n2 at *
  have HN : Hid (cols.length = n1 ∧ vals.length = n2) := ⟨hn1, hn2⟩
  have hm1 : n1 ≤ maxLen := by omega
  clear hn1 hn2
  unfold maxLen at hc2 hv2 hm1
  obtain ⟨n, hn⟩ : ∃ n, min n1 n2 = n := ⟨_, rfl⟩
  have hnn : n ≤ n1 ∧ n ≤ n2 := by omega
  have HG : Hid (addG g cols vals = addT g cols vals n) := by show _ = _; unfold addG; rw [HN.out.1, HN.out.2, hn]
  have HM := hid hn
  clear hn
  go_enter Try.func24, Try.ntmps24
  go_wp2_with fail
  · have hq : n = n2 := by have := HM.out; omega
    subst hq
    go_loopw [12] (fun i wr => ∃ k : Nat, k ≤ n ∧ i = .int .i64 k ∧ Hid (Fm wr m (C + k) (addT g cols vals k)) ∧ Hid (Kp (fun k => k = m) w wr)) (fun i _ => n - (intOf i).toNat)
    case atStart => exact ⟨0, by omega, rfl, HF.out, Kp.refl _ _⟩
    case round =>
      obtain ⟨k, hk, rfl, HFm, HKp⟩ := hrel
      by_cases hlt : k < n
      · obtain ⟨c, hcc⟩ : ∃ c, cols[k]? = some c := ⟨cols[k]'(by rw [HN.out.1]; omega), List.getElem?_eq_getElem _⟩
        obtain ⟨v, hvv⟩ : ∃ v, vals[k]? = some v := ⟨vals[k]'(by rw [HN.out.2]; omega), List.getElem?_eq_getElem _⟩
        obtain ⟨b1, o1, rfl, hQ1, cs1⟩ := SlAt.at (HCo.out.kp HKp.out (fun b hb e => by subst e; exact HQ.out hb)) hcc
        obtain ⟨b2, o2, rfl, hQ2, cs2⟩ := SlAt.at (HVa.out.kp HKp.out (fun b hb e => by subst e; exact HQ.out hb)) hvv
        have e1 : wr.cell? ⟨b1, o1 + k * 2, none⟩ = some (.string c.nm) := cs1 0 _ rfl
        have e2 : wr.cell? ⟨b2, o2 + k * 11, none⟩ = some (.int .i64 v.k) := cs2 0 _ rfl
        have e3 : wr.cell? ⟨b2, o2 + k * 11 + 2, none⟩ = some (.string v.s) := cs2 2 _ rfl
        have l1 := block_lt_of_cell e1
        have l2 := block_lt_of_cell e2
        have HNm := hid (H1.out c (List.mem_of_getElem? hcc))
        have HVs := hid (H2.out v (List.mem_of_getElem? hvv))
        have HCl : Hid (C + k < maxLen) := by have := HC.out; show _ < _; omega
        have HQ1 := hid hQ1
        have HQ2 := hid hQ2
        clear hQ1 hQ2 cs1 cs2
        by_cases hk2 : v.k = 2
        · have HY := hid (addT_yes (g := g) hcc hvv hk2)
          rw [hk2] at e2
          clear hcc hvv hk2
          obtain ⟨F, hF⟩ : ∃ F, wholeB v.s = F := ⟨_, rfl⟩
          rw [hF] at HY
          have HW := hid hF
          clear hF
          go_wp2_with fail
          have i1 : (0 : Int) ≤ (k : Int) := by omega
          have i2 : (k : Int) < (n1 : Int) := by omega
          have i3 : (k : Int) < (n : Int) := by omega
          have hS0 : E2 b1 (o1 + k * 2) b2 (o2 + k * 11 + 2) (.string c.nm) (.string v.s) wr := ⟨e1, e3⟩
          go_region_held3 (E2 b1 (o1 + k * 2) b2 (o2 + k * 11 + 2) (.string c.nm) (.string v.s)) (((repeat (first | (with_reducible refine e2D ?_))); (with_reducible assumption)))
            (first
            | (refine step_callC (v := .string v.s) rfl (.tmp 31) 9 rfl (by simp [Act.eval]) enters31 ?_; refine (whole_b HVs.out HW.out _).mono ?_; rintro e w1 ⟨rfl, hb⟩; refine ⟨_, rfl, ?_⟩; have HB1 : Hid (Below wr.heap.size wr w1) := (Below.refl _ _).drew.trans hb; have hS1 := e2On hS0 HB1.out; clear hb)
            | (refine step_call3 (v := mp m) (v2 := .string c.nm) (v3 := B4 F) rfl (.tmp 21) (.tmp 26) (.tmp 32) 70 9 49 rfl (by simp [Act.eval]) (by simp [Act.eval]) (by simp [Act.eval]) enters27 ?_; refine (jn_any (HFm.out.kp (T := fun _ => False) (Kp.of HB1.out) id) HCl.out HNm.out F).mono ?_; rintro e w2 ⟨rfl, hm2, hk2⟩; refine ⟨_, rfl, ?_⟩; have HM2 := hid hm2; have HK2 := hid hk2; have hS2 : E2 b1 (o1 + k * 2) b2 (o2 + k * 11 + 2) (.string c.nm) (.string v.s) w2 := ⟨hk2.cell hS1.1 (fun e => HQ.out (e ▸ HQ1.out)), hk2.cell hS1.2 (fun e => HQ.out (e ▸ HQ2.out))⟩; clear hm2 hk2))
          clear hS2 hS1 hS0
          go_wp2
          go_roundw
          case rel => exact ⟨k + 1, by omega, by go_num, by rw [HY.out]; exact HM2.out, (HKp.out.trans (Kp.of HB1.out)).trans HK2.out⟩
          case measure => simp [intOf]; omega
        · have HY := hid (addT_no (g := g) hcc hvv hk2)
          clear hcc hvv
          generalize v.k = vk at *
          go_wp2
          go_roundw
          case rel => exact ⟨k + 1, by omega, by go_num, by rw [HY.out]; exact HFm.out.mono (by omega), HKp.out⟩
          case measure => simp [intOf]; omega
      · obtain rfl : k = n := by omega
        go_wp2
        go_end0
        exact ⟨rfl, by rw [HG.out]; exact HFm.out.mono (by omega), HKp.out⟩
  · have hq : n = n1 := by have := HM.out; omega
    subst hq
    go_loopw [12] (fun i wr => ∃ k : Nat, k ≤ n ∧ i = .int .i64 k ∧ Hid (Fm wr m (C + k) (addT g cols vals k)) ∧ Hid (Kp (fun k => k = m) w wr)) (fun i _ => n - (intOf i).toNat)
    case atStart => exact ⟨0, by omega, rfl, HF.out, Kp.refl _ _⟩
    case round =>
      obtain ⟨k, hk, rfl, HFm, HKp⟩ := hrel
      by_cases hlt : k < n
      · obtain ⟨c, hcc⟩ : ∃ c, cols[k]? = some c := ⟨cols[k]'(by rw [HN.out.1]; omega), List.getElem?_eq_getElem _⟩
        obtain ⟨v, hvv⟩ : ∃ v, vals[k]? = some v := ⟨vals[k]'(by rw [HN.out.2]; omega), List.getElem?_eq_getElem _⟩
        obtain ⟨b1, o1, rfl, hQ1, cs1⟩ := SlAt.at (HCo.out.kp HKp.out (fun b hb e => by subst e; exact HQ.out hb)) hcc
        obtain ⟨b2, o2, rfl, hQ2, cs2⟩ := SlAt.at (HVa.out.kp HKp.out (fun b hb e => by subst e; exact HQ.out hb)) hvv
        have e1 : wr.cell? ⟨b1, o1 + k * 2, none⟩ = some (.string c.nm) := cs1 0 _ rfl
        have e2 : wr.cell? ⟨b2, o2 + k * 11, none⟩ = some (.int .i64 v.k) := cs2 0 _ rfl
        have e3 : wr.cell? ⟨b2, o2 + k * 11 + 2, none⟩ = some (.string v.s) := cs2 2 _ rfl
        have l1 := block_lt_of_cell e1
        have l2 := block_lt_of_cell e2
        have HNm := hid (H1.out c (List.mem_of_getElem? hcc))
        have HVs := hid (H2.out v (List.mem_of_getElem? hvv))
        have HCl : Hid (C + k < maxLen) := by have := HC.out; show _ < _; omega
        have HQ1 := hid hQ1
        have HQ2 := hid hQ2
        clear hQ1 hQ2 cs1 cs2
        by_cases hk2 : v.k = 2
        · have HY := hid (addT_yes (g := g) hcc hvv hk2)
          rw [hk2] at e2
          clear hcc hvv hk2
          obtain ⟨F, hF⟩ : ∃ F, wholeB v.s = F := ⟨_, rfl⟩
          rw [hF] at HY
          have HW := hid hF
          clear hF
          go_wp2_with fail
          have i1 : (0 : Int) ≤ (k : Int) := by omega
          have i2 : (k : Int) < (n2 : Int) := by omega
          have i3 : (k : Int) < (n : Int) := by omega
          have hS0 : E2 b1 (o1 + k * 2) b2 (o2 + k * 11 + 2) (.string c.nm) (.string v.s) wr := ⟨e1, e3⟩
          go_region_held3 (E2 b1 (o1 + k * 2) b2 (o2 + k * 11 + 2) (.string c.nm) (.string v.s)) (((repeat (first | (with_reducible refine e2D ?_))); (with_reducible assumption)))
            (first
            | (refine step_callC (v := .string v.s) rfl (.tmp 31) 9 rfl (by simp [Act.eval]) enters31 ?_; refine (whole_b HVs.out HW.out _).mono ?_; rintro e w1 ⟨rfl, hb⟩; refine ⟨_, rfl, ?_⟩; have HB1 : Hid (Below wr.heap.size wr w1) := (Below.refl _ _).drew.trans hb; have hS1 := e2On hS0 HB1.out; clear hb)
            | (refine step_call3 (v := mp m) (v2 := .string c.nm) (v3 := B4 F) rfl (.tmp 21) (.tmp 26) (.tmp 32) 70 9 49 rfl (by simp [Act.eval]) (by simp [Act.eval]) (by simp [Act.eval]) enters27 ?_; refine (jn_any (HFm.out.kp (T := fun _ => False) (Kp.of HB1.out) id) HCl.out HNm.out F).mono ?_; rintro e w2 ⟨rfl, hm2, hk2⟩; refine ⟨_, rfl, ?_⟩; have HM2 := hid hm2; have HK2 := hid hk2; have hS2 : E2 b1 (o1 + k * 2) b2 (o2 + k * 11 + 2) (.string c.nm) (.string v.s) w2 := ⟨hk2.cell hS1.1 (fun e => HQ.out (e ▸ HQ1.out)), hk2.cell hS1.2 (fun e => HQ.out (e ▸ HQ2.out))⟩; clear hm2 hk2))
          clear hS2 hS1 hS0
          go_wp2
          go_roundw
          case rel => exact ⟨k + 1, by omega, by go_num, by rw [HY.out]; exact HM2.out, (HKp.out.trans (Kp.of HB1.out)).trans HK2.out⟩
          case measure => simp [intOf]; omega
        · have HY := hid (addT_no (g := g) hcc hvv hk2)
          clear hcc hvv
          generalize v.k = vk at *
          go_wp2
          go_roundw
          case rel => exact ⟨k + 1, by omega, by go_num, by rw [HY.out]; exact HFm.out.mono (by omega), HKp.out⟩
          case measure => simp [intOf]; omega
      · obtain rfl : k = n := by omega
        go_wp2
        go_end0
        exact ⟨rfl, by rw [HG.out]; exact HFm.out.mono (by omega), HKp.out⟩
end Go.Proofs.Ytmkilckoeaekkaa
