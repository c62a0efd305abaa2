/-
  Print's writer says a row of pieces by a closure.
  Print's writer says names and aggregates.
  What Quote returns, and the reference's.
-/
import Derived.Test.YtmpjmimhoikknaaGreatDoorK17
import Derived.Test.YtmpjmimhoikknaaGreatDoorK19
namespace Go.Proofs.YtmpjmimhoikknaaGreatDoor
open Go.RowKit Go.Joins

section
variable {B : Nat} {w w' : World} {wb : Nat} {nv wv wv' : Value} {ws us : List (List UInt8)} {b1 b2 : Nat} {lv : Value}
/- What a closure over the writer and a row finds. -/
structure Cp (wb b1 b2 : Nat) (lv : Value) (w : World) (wv : Value) : Prop where
  c1 : w.cell? ⟨b1, 0, none⟩ = some (dp wb)
  c2 : w.cell? ⟨b2, 0, none⟩ = some lv
  n1 : ¬ Tq wb wv b1
  n2 : ¬ Tq wb wv b2
theorem Cp.next (h : Cp wb b1 b2 lv w wv) (hk : Kp (Tq wb wv) w w') (ha : At w wv wv') : Cp wb b1 b2 lv w' wv' := by
  have l1 := block_lt_of_cell h.c1
  have l2 := block_lt_of_cell h.c2
  refine ⟨hk.cell h.c1 h.n1, hk.cell h.c2 h.n2, fun e => ?_, fun e => ?_⟩
  · rcases e with e | e
    · exact h.n1 (.inl e)
    · rcases ha b1 e with e | e
      · exact h.n1 (.inr e)
      · exact absurd l1 (by show ¬ b1 < w.heap.size; omega)
  · rcases e with e | e
    · exact h.n2 (.inl e)
    · rcases ha b2 e with e | e
      · exact h.n2 (.inr e)
      · exact absurd l2 (by show ¬ b2 < w.heap.size; omega)
/- What one piece's closure does. -/
def LayC (B wb b1 b2 : Nat) (nv lv : Value) (w0 : World) (wv0 : Value) (f : Nat) (P : List (List (List UInt8))) : Prop := ∀ (k : Nat) (x : List (List UInt8)) (w : World) (wv : Value) (ws : List (List UInt8)), P[k]? = some x → Wr B w wb nv wv ws → Cp wb b1 b2 lv w wv → Kp (Tq wb wv0) w0 w → (ws.length + x.length) * 16 ≤ 140737488355328 → Calls Tryz.prog f #[.int .i64 (k : Int), dp b1, dp b2] w (SyP B wb nv wv (ws ++ x) w)

set_option maxRecDepth 100000 in
set_option maxHeartbeats 4000000 in
theorem list_names {P : List (List (List UInt8))} (h : Wr B w wb nv wv ws) (hc : Cp wb b1 b2 lv w wv) (hl : LayC B wb b1 b2 nv lv w wv 176 P) (hb : (ws.length + (sepL P).length) * 16 ≤ 140737488355328) (hn : (P.length : Int) ≤ 9223372036854775807) : Calls Tryz.prog 175 #[dp wb, .int .i64 (P.length : Int), .func (.func 176) #[] #[dp b1, dp b2]] w (SyP B wb nv wv (ws ++ sepL P) w) := by
  have HW := hid h
  have HC := hid hc
  have HL := hid hl
  have HBd := hid hb
  clear h hc hl hb
  obtain ⟨n, hnn⟩ : ∃ n, n = P.length := ⟨_, rfl⟩
  have HNn := hid hnn
  rw [← hnn] at hn ⊢
  clear hnn
  go_enter Tryz.func175, Tryz.ntmps175
  go_upto_region 1 with fail
  go_loopw [8] (fun u wr => ∃ (i : Nat) (wv' : Value), u = .int .i64 i ∧ (i : Int) ≤ n ∧ Hid (Wr B wr wb nv wv' (ws ++ sepL (P.take i))) ∧ Hid (At w wv wv') ∧ Hid (Kp (Tq wb wv) w wr) ∧ Hid (Cp wb b1 b2 lv wr wv')) (fun u _ => n - (intOf u).toNat)
  case atStart => exact ⟨0, wv, rfl, by omega, by show Wr _ _ _ _ _ (ws ++ sepL []); rw [show sepL [] = [] from rfl, List.append_nil]; exact HW.out, At.refl _ _, Kp.refl _ _, HC.out⟩
  case round =>
    obtain ⟨i, wv2, rfl, hin, HWr, HAr, HKr, HCr⟩ := hrel
    clear HW HC
    by_cases hlt : i < n
    · obtain ⟨x, hx⟩ : ∃ x, P[i]? = some x := ⟨_, List.getElem?_eq_getElem (by have := HNn.out; omega)⟩
      have HX := hid hx
      have HI := hid hlt
      have i1 : (i : Int) < n := by omega
      have HSt := hid (sepL_take hx)
      have HLe := hid (sepL_take_le (l := P) (i + 1))
      clear hx hlt
      by_cases h0 : i = 0
      · subst h0
        have HSp : Hid (ws ++ sepL (P.take (0 + 1)) = (ws ++ sepL (P.take 0)) ++ x) := by show _ = _; rw [HSt.out, if_pos rfl, List.append_assoc]
        have HN0 : Hid (Calls Tryz.prog 176 #[.int .i64 0, dp b1, dp b2] wr (SyP B wb nv wv2 ((ws ++ sepL (P.take 0)) ++ x) wr)) := HL.out 0 x wr wv2 _ HX.out HWr.out HCr.out HKr.out (by have h1 := HBd.out; have h2 := HLe.out; rw [HSt.out, List.length_append, if_pos rfl] at h2; rw [List.length_append]; omega)
        go_wp2_with (first
          | (go_at_call 176; refine HN0.out.mono ?_; rintro e w5 ⟨rfl, wv5, hw5, ha5, hk5⟩; have HW5 := hid hw5; have HA5 := hid (HAr.out.trans ha5 HKr.out.size); have HK5 := hid (HKr.out.next HAr.out hk5); have HC5 := hid (HCr.out.next hk5 ha5); clear hw5 ha5 hk5))
        go_roundw
        case rel => exact ⟨0 + 1, wv5, by simp, by omega, by rw [HSp.out]; exact HW5.out, HA5.out, HK5.out, HC5.out⟩
        case measure => simp [intOf]; have := HI.out; omega
      · have g0 : (0 : Int) < i := by omega
        have HSp : Hid (ws ++ sepL (P.take (i + 1)) = (ws ++ sepL (P.take i)) ++ [wComma] ++ x) := by
          show _ = _
          rw [HSt.out, if_neg h0]; simp
        have HB2 : Hid (((ws ++ sepL (P.take i)).length + (1 + x.length)) * 16 ≤ 140737488355328) := by
          have h1 := HBd.out; have h2 := HLe.out; rw [HSt.out, List.length_append, if_neg h0, List.length_cons] at h2; show _ ≤ _; rw [List.length_append]; omega
        have HS0 : Hid (Calls Tryz.prog 135 #[dp wb, .slice (some ⟨wr.heap.size, 0, none⟩) 1 1] (wr.alloc (.cells #[.string ⟨#[44]⟩] 9)) (SyP B wb nv wv2 ((ws ++ sepL (P.take i)) ++ [wComma]) wr)) := (say_any (us := [wComma]) (HWr.out.on ((Below.refl _ _).alloc (Nat.le_refl _) (.cells #[.string (St wComma)] 9))) (strs_one wr wComma) (by simp) (by have := HB2.out; simp only [List.length_cons, List.length_nil]; omega)).mono (fun e w4 hs => SyP.of ((Below.refl _ _).alloc (Nat.le_refl _) (.cells #[.string (St wComma)] 9)) hs)
        clear h0
        go_wp2_with (first
          | (go_at_call 135; refine HS0.out.mono ?_; rintro e w4 ⟨rfl, wv4, hw4, ha4, hk4⟩; have HW4 := hid hw4; have HA4 := hid (HAr.out.trans ha4 HKr.out.size); have HK4 := hid (HKr.out.next HAr.out hk4); have HC4 := hid (HCr.out.next hk4 ha4); clear hw4 ha4 hk4)
          | (go_at_call 176; refine (HL.out i x w4 wv4 _ HX.out HW4.out HC4.out HK4.out (by have := HB2.out; rw [List.length_append]; simp only [List.length_cons, List.length_nil]; omega)).mono ?_; rintro e w5 ⟨rfl, wv5, hw5, ha5, hk5⟩; have HW5 := hid hw5; have HA5 := hid (HA4.out.trans ha5 HK4.out.size); have HK5 := hid (HK4.out.next HA4.out hk5); have HC5 := hid (HC4.out.next hk5 ha5); clear hw5 ha5 hk5))
        go_roundw
        case rel => exact ⟨i + 1, wv5, by simp, by omega, by rw [HSp.out]; exact HW5.out, HA5.out, HK5.out, HC5.out⟩
        case measure => simp [intOf]; have := HI.out; omega
    · have i1 : ¬ (i : Int) < n := by omega
      have HE : Hid (P.take i = P) := List.take_of_length_le (by have := HNn.out; omega)
      rw [HE.out] at HWr
      clear hlt
      go_wp2_with fail
      go_end0
      exact ⟨rfl, wv2, HWr.out, HAr.out, HKr.out⟩
set_option maxRecDepth 100000 in
set_option maxHeartbeats 4000000 in
theorem list_aggs {P : List (List (List UInt8))} (h : Wr B w wb nv wv ws) (hc : Cp wb b1 b2 lv w wv) (hl : LayC B wb b1 b2 nv lv w wv 177 P) (hb : (ws.length + (sepL P).length) * 16 ≤ 140737488355328) (hn : (P.length : Int) ≤ 9223372036854775807) : Calls Tryz.prog 175 #[dp wb, .int .i64 (P.length : Int), .func (.func 177) #[] #[dp b1, dp b2]] w (SyP B wb nv wv (ws ++ sepL P) w) := by
  have HW := hid h
  have HC := hid hc
  have HL := hid hl
  have HBd := hid hb
  clear h hc hl hb
  obtain ⟨n, hnn⟩ : ∃ n, n = P.length := ⟨_, rfl⟩
  have HNn := hid hnn
  rw [← hnn] at hn ⊢
  clear hnn
  go_enter Tryz.func175, Tryz.ntmps175
  go_upto_region 1 with fail
  go_loopw [8] (fun u wr => ∃ (i : Nat) (wv' : Value), u = .int .i64 i ∧ (i : Int) ≤ n ∧ Hid (Wr B wr wb nv wv' (ws ++ sepL (P.take i))) ∧ Hid (At w wv wv') ∧ Hid (Kp (Tq wb wv) w wr) ∧ Hid (Cp wb b1 b2 lv wr wv')) (fun u _ => n - (intOf u).toNat)
  case atStart => exact ⟨0, wv, rfl, by omega, by show Wr _ _ _ _ _ (ws ++ sepL []); rw [show sepL [] = [] from rfl, List.append_nil]; exact HW.out, At.refl _ _, Kp.refl _ _, HC.out⟩
  case round =>
    obtain ⟨i, wv2, rfl, hin, HWr, HAr, HKr, HCr⟩ := hrel
    clear HW HC
    by_cases hlt : i < n
    · obtain ⟨x, hx⟩ : ∃ x, P[i]? = some x := ⟨_, List.getElem?_eq_getElem (by have := HNn.out; omega)⟩
      have HX := hid hx
      have HI := hid hlt
      have i1 : (i : Int) < n := by omega
      have HSt := hid (sepL_take hx)
      have HLe := hid (sepL_take_le (l := P) (i + 1))
      clear hx hlt
      by_cases h0 : i = 0
      · subst h0
        have HSp : Hid (ws ++ sepL (P.take (0 + 1)) = (ws ++ sepL (P.take 0)) ++ x) := by show _ = _; rw [HSt.out, if_pos rfl, List.append_assoc]
        have HN0 : Hid (Calls Tryz.prog 177 #[.int .i64 0, dp b1, dp b2] wr (SyP B wb nv wv2 ((ws ++ sepL (P.take 0)) ++ x) wr)) := HL.out 0 x wr wv2 _ HX.out HWr.out HCr.out HKr.out (by have h1 := HBd.out; have h2 := HLe.out; rw [HSt.out, List.length_append, if_pos rfl] at h2; rw [List.length_append]; omega)
        go_wp2_with (first
          | (go_at_call 177; refine HN0.out.mono ?_; rintro e w5 ⟨rfl, wv5, hw5, ha5, hk5⟩; have HW5 := hid hw5; have HA5 := hid (HAr.out.trans ha5 HKr.out.size); have HK5 := hid (HKr.out.next HAr.out hk5); have HC5 := hid (HCr.out.next hk5 ha5); clear hw5 ha5 hk5))
        go_roundw
        case rel => exact ⟨0 + 1, wv5, by simp, by omega, by rw [HSp.out]; exact HW5.out, HA5.out, HK5.out, HC5.out⟩
        case measure => simp [intOf]; have := HI.out; omega
      · have g0 : (0 : Int) < i := by omega
        have HSp : Hid (ws ++ sepL (P.take (i + 1)) = (ws ++ sepL (P.take i)) ++ [wComma] ++ x) := by
          show _ = _
          rw [HSt.out, if_neg h0]; simp
        have HB2 : Hid (((ws ++ sepL (P.take i)).length + (1 + x.length)) * 16 ≤ 140737488355328) := by
          have h1 := HBd.out; have h2 := HLe.out; rw [HSt.out, List.length_append, if_neg h0, List.length_cons] at h2; show _ ≤ _; rw [List.length_append]; omega
        have HS0 : Hid (Calls Tryz.prog 135 #[dp wb, .slice (some ⟨wr.heap.size, 0, none⟩) 1 1] (wr.alloc (.cells #[.string ⟨#[44]⟩] 9)) (SyP B wb nv wv2 ((ws ++ sepL (P.take i)) ++ [wComma]) wr)) := (say_any (us := [wComma]) (HWr.out.on ((Below.refl _ _).alloc (Nat.le_refl _) (.cells #[.string (St wComma)] 9))) (strs_one wr wComma) (by simp) (by have := HB2.out; simp only [List.length_cons, List.length_nil]; omega)).mono (fun e w4 hs => SyP.of ((Below.refl _ _).alloc (Nat.le_refl _) (.cells #[.string (St wComma)] 9)) hs)
        clear h0
        go_wp2_with (first
          | (go_at_call 135; refine HS0.out.mono ?_; rintro e w4 ⟨rfl, wv4, hw4, ha4, hk4⟩; have HW4 := hid hw4; have HA4 := hid (HAr.out.trans ha4 HKr.out.size); have HK4 := hid (HKr.out.next HAr.out hk4); have HC4 := hid (HCr.out.next hk4 ha4); clear hw4 ha4 hk4)
          | (go_at_call 177; refine (HL.out i x w4 wv4 _ HX.out HW4.out HC4.out HK4.out (by have := HB2.out; rw [List.length_append]; simp only [List.length_cons, List.length_nil]; omega)).mono ?_; rintro e w5 ⟨rfl, wv5, hw5, ha5, hk5⟩; have HW5 := hid hw5; have HA5 := hid (HA4.out.trans ha5 HK4.out.size); have HK5 := hid (HK4.out.next HA4.out hk5); have HC5 := hid (HC4.out.next hk5 ha5); clear hw5 ha5 hk5))
        go_roundw
        case rel => exact ⟨i + 1, wv5, by simp, by omega, by rw [HSp.out]; exact HW5.out, HA5.out, HK5.out, HC5.out⟩
        case measure => simp [intOf]; have := HI.out; omega
    · have i1 : ¬ (i : Int) < n := by omega
      have HE : Hid (P.take i = P) := List.take_of_length_le (by have := HNn.out; omega)
      rw [HE.out] at HWr
      clear hlt
      go_wp2_with fail
      go_end0
      exact ⟨rfl, wv2, HWr.out, HAr.out, HKr.out⟩
end
end Go.Proofs.YtmpjmimhoikknaaGreatDoor
namespace Go.Proofs.YtmpjmimhoikknaaGreatDoor
open Go.RowKit Go.Joins

abbrev Sg4 (b1 b2 g o : Nat) (v1 v2 v3 v4 : Value) (w : World) : Prop := w.cell? ⟨b1, 0, none⟩ = some v1 ∧ w.cell? ⟨b2, 0, none⟩ = some v2 ∧ w.cell? ⟨g, o, none⟩ = some v3 ∧ w.cell? ⟨g, o + 1, none⟩ = some v4
theorem s4B {b1 b2 g o : Nat} {v1 v2 v3 v4 : Value} {w w' : World} (h : Sg4 b1 b2 g o v1 v2 v3 v4 w) (hb : Below w.heap.size w w') : Sg4 b1 b2 g o v1 v2 v3 v4 w' :=
  ⟨(hb.cell (p := ⟨b1, 0, none⟩) (block_lt_of_cell h.1)).trans h.1, (hb.cell (p := ⟨b2, 0, none⟩) (block_lt_of_cell h.2.1)).trans h.2.1, (hb.cell (p := ⟨g, o, none⟩) (block_lt_of_cell h.2.2.1)).trans h.2.2.1, (hb.cell (p := ⟨g, o + 1, none⟩) (block_lt_of_cell h.2.2.2)).trans h.2.2.2⟩
theorem s4D {b1 b2 g o : Nat} {v1 v2 v3 v4 : Value} {w : World} (h : Sg4 b1 b2 g o v1 v2 v3 v4 w) : Sg4 b1 b2 g o v1 v2 v3 v4 w.drew := h
theorem s4A {b1 b2 g o : Nat} {v1 v2 v3 v4 : Value} {w : World} {x : Obj} (h : Sg4 b1 b2 g o v1 v2 v3 v4 w) : Sg4 b1 b2 g o v1 v2 v3 v4 (w.alloc x) := s4B h ((Below.refl _ _).alloc (Nat.le_refl _) x)
theorem Gp.on {w w' : World} {b : Nat} (h : Gp w) (hb : 9 ≤ b) (hB : Below b w w') : Gp w' :=
  ⟨h.g.on hb hB, fun i hi => (hB.cell (p := ⟨1, i, none⟩) (show 1 < b by omega)).trans (h.how i hi), fun i hi => (hB.cell (p := ⟨3, i, none⟩) (show 3 < b by omega)).trans (h.agg i hi), fun i hi => (hB.cell (p := ⟨0, i, none⟩) (show 0 < b by omega)).trans (h.kind i hi)⟩
section
variable {B : Nat} {w w' : World} {wb : Nat} {nv wv wv' : Value} {ws us : List (List UInt8)} {b1 b2 : Nat} {lv : Value}
theorem Wr.T_ge (h : Wr B w wb nv wv ws) : ∀ k, Tq wb wv k → B ≤ k := fun k e => e.elim (fun e => by have := h.bB; omega) (fun e => (h.own.at e).1)
theorem Wr.T_lt (h : Wr B w wb nv wv ws) : ∀ k, Tq wb wv k → k < w.heap.size := fun k e => e.elim (fun e => by have := h.lt; omega) (fun e => (h.own.at e).2)
theorem Wr.le (h : Wr B w wb nv wv ws) : B ≤ w.heap.size := by have := h.bB; have := h.lt; omega
theorem SyP.trans {W : World} {e : Ending} {wv2 : Value} {ws' : List (List UInt8)} (ha : At w wv wv2) (hk : Kp (Tq wb wv) w W) (h : SyP B wb nv wv2 ws' W e w') : SyP B wb nv wv ws' w e w' := by
  obtain ⟨he, v, h1, h2, h3⟩ := h
  exact ⟨he, v, h1, ha.trans h2 hk.size, hk.next ha h3⟩
set_option maxRecDepth 100000 in
set_option maxHeartbeats 4000000 in
theorem aggs1_any {k : Nat} {L : List (Int × List UInt8)} {x : Int × List UInt8} (h : Wr B w wb nv wv ws) (hG : Gp w) (hc : Cp wb b1 b2 lv w wv) (hl : SlAt (fun b => b < B) ag2 2 w lv L) (hk : L[k]? = some x) (hb : (ws.length + (aggP1 x).length) * 16 ≤ 140737488355328) : Calls Tryz.prog 177 #[.int .i64 (k : Int), dp b1, dp b2] w (SyP B wb nv wv (ws ++ aggP1 x) w) := by
  have HW := hid h
  have HBd := hid hb
  have hkl := (List.getElem?_eq_some_iff.1 hk).1
  obtain ⟨p, c, rfl, hc1, hc2⟩ := hl.form
  unfold maxLen at hc2
  obtain ⟨g, og, rfl, hgB, hcl⟩ := hl.at (j := k) hk
  have n3 : ¬ Tq wb wv g := fun e => by have := h.T_ge g e; omega
  have c3 : w.cell? ⟨g, og + k * 2, none⟩ = some (.int .i64 x.1) := hcl 0 _ rfl
  have c4 : w.cell? ⟨g, og + k * 2 + 1, none⟩ = some (.string (St x.2)) := hcl 1 _ rfl
  have hS0 : Sg4 b1 b2 g (og + k * 2) (dp wb) (.slice (some ⟨g, og, none⟩) L.length c) (.int .i64 x.1) (.string (St x.2)) w := ⟨hc.c1, hc.c2, c3, c4⟩
  have k0 : (0 : Int) ≤ k := by omega
  have k1 : (k : Int) < L.length := by omega
  have HSx : Hid (∀ w5 wv5, Kp (Tq wb wv) w w5 → At w wv wv5 → Sg4 b1 b2 g (og + k * 2) (dp wb) (.slice (some ⟨g, og, none⟩) L.length c) (.int .i64 x.1) (.string (St x.2)) w5 ∧ Cp wb b1 b2 (.slice (some ⟨g, og, none⟩) L.length c) w5 wv5) := fun w5 wv5 hk ha => ⟨⟨hk.cell hc.c1 hc.n1, hk.cell hc.c2 hc.n2, hk.cell c3 n3, hk.cell c4 n3⟩, hc.next hk ha⟩
  have HGp := hid hG
  obtain ⟨xk, xs⟩ := x
  simp only at c3 c4 hS0 HSx
  clear h hG hc hl hk hb hcl c3 c4 hkl n3 hgB
  have HAg : Hid (Calls Tryz.prog 178 #[.int .i64 xk] w.drew fun e w' => e = .returned (.string (St (wordL aggL xk))) ∧ w' = w.drew) := agg_word xk w.drew (HGp.out.next (Below.refl _ _).drew)
  have HBz : Hid (Below w.heap.size w (w.drew.alloc (.cells #[.string (St (wordL aggL xk))] 9))) := (Below.refl w.heap.size w).drew.alloc (show w.heap.size ≤ w.drew.heap.size from Nat.le_refl _) _
  by_cases hx1 : xk = 1
  · subst hx1
    go_enter Tryz.func177, Tryz.ntmps177
    go_upto_region 0 with fail
    go_region_held3 (Sg4 b1 b2 g (og + k * 2) (dp wb) (.slice (some ⟨g, og, none⟩) L.length c) (.int .i64 1) (.string (St xs))) (((repeat (first | (with_reducible refine s4D ?_) | (with_reducible refine s4A ?_))); (with_reducible assumption)))
      (first
        | (go_at_call 178; refine HAg.out.mono ?_; rintro e w4 ⟨rfl, rfl⟩)
        | (go_at_call 135; refine (say_any (us := [wordL aggL 1]) (HW.out.on HBz.out) (strs_one w.drew _) (by simp) (by have := HBd.out; simp [aggP1] at this ⊢; omega)).mono ?_; rintro e w5 hs5; have HS5 := hid (SyP.of HBz.out hs5); obtain ⟨rfl, -⟩ := id hs5; clear hs5; obtain ⟨-, wv5, -, ha5, hk5⟩ := id HS5.out; have hS5 := (HSx.out _ _ hk5 ha5).1; clear ha5 hk5))
    all_goals
      (clear hS0
       obtain ⟨d1, d2, d3, d4⟩ := hS5
       go_wp2
       go_end0
       exact HS5.out)
  · have e1 : (xk != 1) = true := by simp [hx1]
    have HP : Hid (aggP1 (xk, xs) = [wordL aggL xk] ++ [xs]) := by show _ = _; unfold aggP1; rw [if_neg hx1]; rfl
    rw [HP.out] at HBd ⊢
    clear hx1
    go_enter Tryz.func177, Tryz.ntmps177
    go_upto_region 0 with fail
    go_region_held3 (Sg4 b1 b2 g (og + k * 2) (dp wb) (.slice (some ⟨g, og, none⟩) L.length c) (.int .i64 xk) (.string (St xs))) (((repeat (first | (with_reducible refine s4D ?_) | (with_reducible refine s4A ?_))); (with_reducible assumption)))
      (first
        | (go_at_call 178; refine HAg.out.mono ?_; rintro e w4 ⟨rfl, rfl⟩)
        | (go_at_call 135; refine (say_any (us := [wordL aggL xk]) (HW.out.on HBz.out) (strs_one w.drew _) (by simp) (by have := HBd.out; simp at this ⊢; omega)).mono ?_; rintro e w5 hs5; have HS5 := hid (SyP.of HBz.out hs5); obtain ⟨rfl, -⟩ := id hs5; clear hs5; obtain ⟨-, wv5, hw5, ha5, hk5⟩ := HS5.out; have HW5 := hid hw5; have HA5 := hid ha5; have HK5 := hid hk5; have hS5 := (HSx.out _ _ hk5 ha5).1; clear ha5 hk5 hw5 HS5))
    all_goals
      (clear hS0
       have HSy : Hid (∀ w6, Kp (Tq wb wv5) w5 w6 → Sg4 b1 b2 g (og + k * 2) (dp wb) (.slice (some ⟨g, og, none⟩) L.length c) (.int .i64 xk) (.string (St xs)) w6) := fun w6 h6 => (HSx.out w6 wv (HK5.out.next HA5.out h6) (At.refl _ _)).1
       have d1 := hS5.1
       have d2 := hS5.2.1
       have d3 := hS5.2.2.1
       go_upto_region 2 with fail
       clear d1 d2 d3
       have HBy : Hid (Below w5.heap.size w5 (w5.drew.alloc (.cells #[.string (St xs)] 9))) := (Below.refl w5.heap.size w5).drew.alloc (show w5.heap.size ≤ w5.drew.heap.size from Nat.le_refl _) _
       go_region_held3 (Sg4 b1 b2 g (og + k * 2) (dp wb) (.slice (some ⟨g, og, none⟩) L.length c) (.int .i64 xk) (.string (St xs))) (((repeat (first | (with_reducible refine s4D ?_) | (with_reducible refine s4A ?_))); (with_reducible assumption)))
         (first
           | (go_at_call 135; refine (say_any (us := [xs]) (HW5.out.on HBy.out) (strs_one w5.drew _) (by simp) (by have := HBd.out; simp at this ⊢; omega)).mono ?_; rintro e w6 hs6; have HS6 := hid (SyP.of HBy.out hs6); obtain ⟨rfl, -⟩ := id hs6; clear hs6; have hS6 := HSy.out _ HS6.out.choose_k))
       all_goals
         (clear hS5
          go_wp2
          go_end0
          rw [show ws ++ [wordL aggL xk, xs] = ws ++ [wordL aggL xk] ++ [xs] by simp]
          exact SyP.trans HA5.out HK5.out HS6.out))
/- The two boxes that a closure's variables lie in. -/
theorem cp_boxes {t1 t2 : TypeId} (h : Wr B w wb nv wv ws) : Cp wb w.heap.size (w.heap.size + 1) lv ((w.alloc (.cells #[dp wb] t1)).alloc (.cells #[lv] t2)) wv ∧ Below w.heap.size w ((w.alloc (.cells #[dp wb] t1)).alloc (.cells #[lv] t2)) := by
  have h1 := (Kp.alloc (fun _ => False) (w.alloc (.cells #[dp wb] t1)) (.cells #[lv] t2)).blk (alloc_block w (.cells #[dp wb] t1)) id
  have h2 := alloc_block (w.alloc (.cells #[dp wb] t1)) (.cells #[lv] t2)
  rw [World.size_alloc] at h2
  refine ⟨⟨?_, ?_, fun e => ?_, fun e => ?_⟩, ((Below.refl _ _).alloc (Nat.le_refl _) _).alloc (by simp) _⟩
  · rw [block_cell h1 0]; rfl
  · rw [block_cell h2 0]; rfl
  · have := h.T_lt _ e; omega
  · have := h.T_lt _ e; omega
theorem layC_names {L : List (List UInt8)} (h : Wr B w wb nv wv ws) (hl : SlAt (fun b => b < B) str1 1 w lv L) : LayC B wb b1 b2 nv lv w wv 176 (nameP L) := by
  intro k x w2 wv2 ws2 hx hw hc hk hb
  unfold nameP at hx
  rw [List.getElem?_map] at hx
  cases hy : L[k]? with
  | none => rw [hy] at hx; cases hx
  | some y =>
    rw [hy] at hx; cases hx
    exact names1_any hw hc.c1 hc.c2 hc.n1 hc.n2 (hl.kp hk (fun b hb e => by have := h.T_ge b e; omega)) hy (by simpa using hb)
theorem layC_aggs {L : List (Int × List UInt8)} (h : Wr B w wb nv wv ws) (hG : Gp w) (hN : 9 ≤ B) (hl : SlAt (fun b => b < B) ag2 2 w lv L) : LayC B wb b1 b2 nv lv w wv 177 (aggP L) := by
  intro k x w2 wv2 ws2 hx hw hc hk hb
  unfold aggP at hx
  rw [List.getElem?_map] at hx
  cases hy : L[k]? with
  | none => rw [hy] at hx; cases hx
  | some y =>
    rw [hy] at hx; cases hx
    exact aggs1_any hw (hG.on hN (hk.below h.le h.T_ge)) hc (hl.kp hk (fun b hb e => by have := h.T_ge b e; omega)) hy hb
set_option maxRecDepth 100000 in
set_option maxHeartbeats 1000000 in
theorem names_any {L : List (List UInt8)} (h : Wr B w wb nv wv ws) (hl : SlAt (fun b => b < B) str1 1 w lv L) (hb : (ws.length + (sepL (nameP L)).length) * 16 ≤ 140737488355328) : Calls Tryz.prog 142 #[dp wb, lv] w (SyP B wb nv wv (ws ++ sepL (nameP L)) w) := by
  obtain ⟨hC, hB⟩ := cp_boxes (lv := lv) (t1 := 145) (t2 := 41) h
  have hlen : (nameP L).length = L.length := by simp [nameP]
  obtain ⟨p, c, rfl, hc1, hc2⟩ := hl.form
  have hlm : (L.length : Int) ≤ 9223372036854775807 := by unfold maxLen at hc2; omega
  have HL := hid (list_names (P := nameP L) (h.on hB) hC (layC_names (h.on hB) (hl.on hB)) hb (by rw [hlen]; exact hlm))
  rw [hlen] at HL
  have HB := hid hB
  have k1 := hC.c1
  have k2 := hC.c2
  generalize hW : ((w.alloc (.cells #[dp wb] 145)).alloc (.cells #[Value.slice p L.length c] 41)) = W at *
  have HW := hid hW
  clear h hl hb hC hB hW hlen
  go_enter Tryz.func142, Tryz.ntmps142
  go_upto_region 1 with fail
  rw [HW.out]
  go_wp2_with (go_at_call 175; refine HL.out.mono ?_; rintro e w2 hs; have HS := hid hs; obtain ⟨rfl, -⟩ := id hs; clear hs)
  go_end0
  exact SyP.of HB.out HS.out
set_option maxRecDepth 100000 in
set_option maxHeartbeats 1000000 in
theorem aggs_any {L : List (Int × List UInt8)} (h : Wr B w wb nv wv ws) (hG : Gp w) (hN : 9 ≤ B) (hl : SlAt (fun b => b < B) ag2 2 w lv L) (hb : (ws.length + (sepL (aggP L)).length) * 16 ≤ 140737488355328) : Calls Tryz.prog 143 #[dp wb, lv] w (SyP B wb nv wv (ws ++ sepL (aggP L)) w) := by
  obtain ⟨hC, hB⟩ := cp_boxes (lv := lv) (t1 := 145) (t2 := 42) h
  have hlen : (aggP L).length = L.length := by simp [aggP]
  obtain ⟨p, c, rfl, hc1, hc2⟩ := hl.form
  have hlm : (L.length : Int) ≤ 9223372036854775807 := by unfold maxLen at hc2; omega
  have HL := hid (list_aggs (P := aggP L) (h.on hB) hC (layC_aggs (h.on hB) (hG.next hB) hN (hl.on hB)) hb (by rw [hlen]; exact hlm))
  rw [hlen] at HL
  have HB := hid hB
  have k1 := hC.c1
  have k2 := hC.c2
  generalize hW : ((w.alloc (.cells #[dp wb] 145)).alloc (.cells #[Value.slice p L.length c] 42)) = W at *
  have HW := hid hW
  clear h hl hb hC hB hW hlen hG
  go_enter Tryz.func143, Tryz.ntmps143
  go_upto_region 1 with fail
  rw [HW.out]
  go_wp2_with (go_at_call 175; refine HL.out.mono ?_; rintro e w2 hs; have HS := hid hs; obtain ⟨rfl, -⟩ := id hs; clear hs)
  go_end0
  exact SyP.of HB.out HS.out
end
end Go.Proofs.YtmpjmimhoikknaaGreatDoor
namespace Go.Proofs.YtmpjmimhoikknaaGreatDoor
open Go.RowKit Go.Joins
theorem make_b (n : Nat) (hn : (n : Int) ≤ 140737488355328) (u : World) : (Instr.makeSlice 105 (.int .i64 0) (.int .i64 (n : Int))).run Tryz.prog u = .ok (.slice (some ⟨u.heap.size, 0, none⟩) 0 n) (u.alloc (.cells (madeCells #[.int .u8 0] n) 5)) := by
  obtain ⟨i0, hi, hz0, hz1, hz2⟩ := info_parts Tryz.info5
  have h := run_make (P := Tryz.prog) u 105 5 i0 (.int .u8 0) Tryz.underlying105 hi hz0 .i64 .i64 0 (n : Int) (by omega) (by omega) (by rw [hz2]; omega) (by omega)
  have e : ((n : Int)).toNat = n := by omega
  rw [e] at h
  simpa [hz1, Value.cells] using h
theorem made_row (w : World) (n : Nat) (hn : (n : Int) ≤ 140737488355328) : (w.alloc (.cells (madeCells #[.int .u8 0] n) 5)).ownsRow w.heap.size 5 1 (.slice (some ⟨w.heap.size, 0, none⟩) 0 n) 0 (bytesV []) :=
  World.ownsRow_made w _ n (Nat.le_refl _) (by unfold maxLen; omega) (by simp [madeCells])
theorem alloc_cell2 (w : World) (o : Obj) (x : Value) (t : TypeId) : ((w.alloc o).alloc (.cells #[x] t)).cell? ⟨w.heap.size + 1, 0, none⟩ = some x := by
  have h := alloc_cell (w.alloc o) x t
  rw [World.size_alloc] at h
  exact h
theorem quoted_is (l : List UInt8) : 34 :: esc (l.take l.length) ++ [34] = quoted l := by rw [List.take_length]; rfl
set_option maxRecDepth 100000 in
set_option maxHeartbeats 1000000 in
theorem quote_any (l : List UInt8) (hl : (l.length : Int) ≤ 1048576) (w : World) : Calls Tryz.prog 141 #[.string (St l)] w fun e w' => e = .returned (.string (St (quoted l))) ∧ Below w.heap.size w w' := by
  have hsz := St_size l
  have hmk := make_b (l.length + 2) (by omega)
  simp only [Int.natCast_add, show ((2 : Nat) : Int) = 2 from rfl] at hmk
  have HM := hid (made_row w (l.length + 2) (by omega))
  have HB0 := hid ((Below.refl w.heap.size w).alloc (Nat.le_refl _) (.cells (madeCells #[.int .u8 0] (l.length + 2)) 5))
  generalize madeCells #[Value.int .u8 0] (l.length + 2) = mc at *
  go_enter Tryz.func141, Tryz.ntmps141
  go_wp2_with (at_builtin; refine app2 rfl _ _ rfl rfl (HM.out.alloc _) rfl (alloc_cell2 _ _ _ _) rfl (by omega) (by have := HB0.out.size; simp at this ⊢; omega) ?_; intro v0 w0 ho0 hb0; have HO0 := hid ho0; have HBz := hid ((HB0.out.alloc (by simp) _).trans hb0); clear ho0 hb0)
  go_loopw [3, 14] (fun v i wr => ∃ (k : Nat) (acc : List UInt8), (k : Int) ≤ l.length ∧ i = .int .i64 k ∧ acc.length ≤ 2 * k + 1 ∧ Hid (acc = 34 :: esc (l.take k)) ∧ Hid (wr.ownsRow w.heap.size 5 1 v acc.length (bytesV acc)) ∧ Hid (Below w.heap.size w wr)) (fun _ i _ => l.length - (intOf i).toNat)
  case atStart => exact ⟨0, [34], by omega, rfl, by simp, rfl, HO0.out, HBz.out⟩
  case round =>
    obtain ⟨k, acc, hk, rfl, hal, HL, HO, HB⟩ := hrel
    clear HM HB0 HO0 HBz hmk
    have hsz9 : w.heap.size ≤ wr.heap.size := HB.out.size
    by_cases hlt : k < l.length
    · have hi := idx l k hlt
      have hkI : (k : Int) < l.length := by omega
      have HS := hid (esc_step hlt)
      generalize l[k] = c at *
      cases hn : nSl c with
      | true =>
        have HE := hid (show escC c = [92, c] by unfold escC; rw [if_pos hn])
        have M1 : Hid True := hid trivial
        go_wp2_with (first
          | (go_at_call 174; refine (nSl_any _ _).mono ?_; rintro e w5 ⟨rfl, hw5⟩; replace hw5 := hw5.symm; subst hw5; rw [hn])
          | (at_builtin; clear M1; refine app2 rfl _ _ rfl rfl (HO.out.alloc _) rfl (alloc_cell _ _ _) rfl (by omega) (by go_size) ?_; intro v1 w1 ho1 hb1; have hsz1 : w.heap.size ≤ w1.heap.size := (by have := hb1.size; simp at this; omega); have HO1 := hid ho1; have HB1 := hid ((HB.out.alloc hsz9 _).trans hb1); clear ho1 hb1)
          | (at_builtin; refine app2 rfl _ _ rfl rfl (HO1.out.alloc _) rfl (alloc_cell _ _ _) rfl (by omega) (by go_size) ?_; intro v2 w2 ho2 hb2; have HO2 := hid ho2; have HB2 := hid ((HB1.out.alloc hsz1 _).trans hb2); clear ho2 hb2))
        go_roundw
        case rel =>
          refine ⟨k + 1, acc ++ [92, c], by omega, by go_num, by simp; omega, ?_, own_cast HO2.out (by simp) (by simp [bytesV]), HB2.out⟩
          show _ = _; rw [HS.out, HE.out, HL.out]; simp
        case measure => simp [intOf]; omega
      | false =>
        have HE := hid (show escC c = [c] by unfold escC; rw [if_neg (by simp [hn])])
        go_wp2_with (first
          | (go_at_call 174; refine (nSl_any _ _).mono ?_; rintro e w5 ⟨rfl, hw5⟩; replace hw5 := hw5.symm; subst hw5; rw [hn])
          | (at_builtin; refine app2 rfl _ _ rfl rfl (HO.out.alloc _) rfl (alloc_cell _ _ _) rfl (by omega) (by go_size) ?_; intro v1 w1 ho1 hb1; have hsz1 : w.heap.size ≤ w1.heap.size := (by have := hb1.size; simp at this; omega); have HO1 := hid ho1; have HB1 := hid ((HB.out.alloc hsz9 _).trans hb1); clear ho1 hb1))
        go_roundw
        case rel =>
          refine ⟨k + 1, acc ++ [c], by omega, by go_num, by simp; omega, ?_, own_cast HO1.out (by simp) (by simp [bytesV]), HB1.out⟩
          show _ = _; rw [HS.out, HE.out, HL.out]; simp
        case measure => simp [intOf]; omega
    · have hkl : k = l.length := by omega
      subst hkl
      go_wp2_with (at_builtin; refine app2 rfl _ _ rfl rfl (HO.out.alloc _) rfl (alloc_cell _ _ _) rfl (by omega) (by go_size) ?_; intro v1 w1 ho1 hb1; have hcv := conv_own' (l := acc ++ [34]) (own_cast ho1 rfl (by simp [bytesV])) (by simp); have HB1 := hid ((HB.out.alloc hsz9 _).trans hb1); clear ho1 hb1)
      go_ret
      exact ⟨by rw [← quoted_is, ← HL.out]; rfl, HB1.out⟩
set_option maxRecDepth 100000 in
set_option maxHeartbeats 1000000 in
theorem rquote_any (l : List UInt8) (hl : (l.length : Int) ≤ 1048576) (w : World) : Calls Tryz.prog 60 #[.string (St l)] w fun e w' => e = .returned (.string (St (quoted l))) ∧ Below w.heap.size w w' := by
  have hsz := St_size l
  go_enter Tryz.func60, Tryz.ntmps60
  go_wp2_with fail
  go_loopw [3, 4] (fun v i wr => ∃ (k : Nat) (acc : List UInt8), (k : Int) ≤ l.length ∧ i = .int .i64 k ∧ acc.length ≤ 2 * k + 1 ∧ Hid (acc = 34 :: esc (l.take k)) ∧ Hid (wr.ownsRow w.heap.size 5 1 v acc.length (bytesV acc)) ∧ Hid (Below w.heap.size w wr)) (fun _ i _ => l.length - (intOf i).toNat)
  case atStart => exact ⟨0, [34], by omega, rfl, by simp, rfl, World.ownsRow_lit w #[.int .u8 34] 1 (Nat.le_refl _) (by decide) rfl, (Below.refl _ _).alloc (Nat.le_refl _) _⟩
  case round =>
    obtain ⟨k, acc, hk, rfl, hal, HL, HO, HB⟩ := hrel
    have hsz9 : w.heap.size ≤ wr.heap.size := HB.out.size
    by_cases hlt : k < l.length
    · have hi := idx l k hlt
      have hkI : (k : Int) < l.length := by omega
      have HS := hid (esc_step hlt)
      generalize l[k] = c at *
      by_cases h34 : c.toNat = 34
      · have b34 : ((c.toNat : Int) == 34) = true := beq_iff_eq.2 (by omega)
        have HE := hid (show escC c = [92, c] by unfold escC; rw [if_pos (by simp [nSl, h34])])
        have M1 : Hid True := hid trivial
        clear h34
        go_wp2_with (first
          | (at_builtin; clear M1; refine app2 rfl _ _ rfl rfl (HO.out.alloc _) rfl (alloc_cell _ _ _) rfl (by omega) (by go_size) ?_; intro v1 w1 ho1 hb1; have hsz1 : w.heap.size ≤ w1.heap.size := (by have := hb1.size; simp at this; omega); have HO1 := hid ho1; have HB1 := hid ((HB.out.alloc hsz9 _).trans hb1); clear ho1 hb1)
          | (at_builtin; refine app2 rfl _ _ rfl rfl (HO1.out.alloc _) rfl (alloc_cell _ _ _) rfl (by omega) (by go_size) ?_; intro v2 w2 ho2 hb2; have HO2 := hid ho2; have HB2 := hid ((HB1.out.alloc hsz1 _).trans hb2); clear ho2 hb2))
        go_roundw
        case rel =>
          refine ⟨k + 1, acc ++ [92, c], by omega, by go_num, by simp; omega, ?_, own_cast HO2.out (by simp) (by simp [bytesV]), HB2.out⟩
          show _ = _; rw [HS.out, HE.out, HL.out]; simp
        case measure => simp [intOf]; omega
      · have b34 : ((c.toNat : Int) == 34) = false := beq_eq_false_iff_ne.2 (by omega)
        have n34 : ¬ (c.toNat : Int) = 34 := by omega
        by_cases h92 : c.toNat = 92
        · have b92 : ((c.toNat : Int) == 92) = true := beq_iff_eq.2 (by omega)
          have HE := hid (show escC c = [92, c] by unfold escC; rw [if_pos (by simp [nSl, h92])])
          have M1 : Hid True := hid trivial
          clear h34 h92
          go_wp2_with (first
            | (at_builtin; clear M1; refine app2 rfl _ _ rfl rfl (HO.out.alloc _) rfl (alloc_cell _ _ _) rfl (by omega) (by go_size) ?_; intro v1 w1 ho1 hb1; have hsz1 : w.heap.size ≤ w1.heap.size := (by have := hb1.size; simp at this; omega); have HO1 := hid ho1; have HB1 := hid ((HB.out.alloc hsz9 _).trans hb1); clear ho1 hb1)
            | (at_builtin; refine app2 rfl _ _ rfl rfl (HO1.out.alloc _) rfl (alloc_cell _ _ _) rfl (by omega) (by go_size) ?_; intro v2 w2 ho2 hb2; have HO2 := hid ho2; have HB2 := hid ((HB1.out.alloc hsz1 _).trans hb2); clear ho2 hb2))
          go_roundw
          case rel =>
            refine ⟨k + 1, acc ++ [92, c], by omega, by go_num, by simp; omega, ?_, own_cast HO2.out (by simp) (by simp [bytesV]), HB2.out⟩
            show _ = _; rw [HS.out, HE.out, HL.out]; simp
          case measure => simp [intOf]; omega
        · have b92 : ((c.toNat : Int) == 92) = false := beq_eq_false_iff_ne.2 (by omega)
          have n92 : ¬ (c.toNat : Int) = 92 := by omega
          have HE := hid (show escC c = [c] by unfold escC; rw [if_neg (by simp [nSl, h34, h92])])
          clear h34 h92
          go_wp2_with (at_builtin; refine app2 rfl _ _ rfl rfl (HO.out.alloc _) rfl (alloc_cell _ _ _) rfl (by omega) (by go_size) ?_; intro v1 w1 ho1 hb1; have hsz1 : w.heap.size ≤ w1.heap.size := (by have := hb1.size; simp at this; omega); have HO1 := hid ho1; have HB1 := hid ((HB.out.alloc hsz9 _).trans hb1); clear ho1 hb1)
          go_roundw
          case rel =>
            refine ⟨k + 1, acc ++ [c], by omega, by go_num, by simp; omega, ?_, own_cast HO1.out (by simp) (by simp [bytesV]), HB1.out⟩
            show _ = _; rw [HS.out, HE.out, HL.out]; simp
          case measure => simp [intOf]; omega
    · have hkl : k = l.length := by omega
      subst hkl
      go_wp2_with (at_builtin; refine app2 rfl _ _ rfl rfl (HO.out.alloc _) rfl (alloc_cell _ _ _) rfl (by omega) (by go_size) ?_; intro v1 w1 ho1 hb1; have hcv := conv_own' (l := acc ++ [34]) (own_cast ho1 rfl (by simp [bytesV])) (by simp); have HB1 := hid ((HB.out.alloc hsz9 _).trans hb1); clear ho1 hb1)
      go_ret
      exact ⟨by rw [← quoted_is, ← HL.out]; rfl, HB1.out⟩
end Go.Proofs.YtmpjmimhoikknaaGreatDoor
