/-
  The document's examples, run: what the statements' head returns.
-/
import Derived.Test.YtkjbnanjlcdgjaaQSame
namespace Go.Proofs.Ytkjbnanjlcdgjaa
open Go.RowKit Go.Sort Go.Shelf

def wV (n : UInt8) : Vl := ⟨2, 0, ⟨#[n]⟩, 0, 0, 0, 0, 0, 0, 0, 0, (show (1 : Nat) ≤ maxLen by decide)⟩
set_option maxRecDepth 100000 in
set_option maxHeartbeats 400000 in
theorem word_any {n : UInt8} {w : World} :
    Calls Try.prog 19 #[.string ⟨#[n]⟩] w fun e w' => ∃ p c, e = .returned (.slice p 1 c) ∧ RowAt w' (.slice p 1 c) [wV n] ∧ Below w.heap.size w w' := by
  go_enter Try.func19, Try.ntmps19
  go_wp2
  go_ret
  refine ⟨_, 1, rfl, ⟨_, 1, rfl, ⟨Nat.le_refl _, fun e => by cases e⟩, by simp [maxLen], fun _ => ⟨_, 0, rfl, ⟨trivial, by simp [bsz]⟩, fun j x hj i u hu => ?_⟩⟩, (Below.refl _ _).alloc (Nat.le_refl _) _⟩
  have hj0 : j = 0 := by have := (List.getElem?_eq_some_iff.1 hj).1; simp at this; omega
  subst hj0
  simp at hj
  subst hj
  rw [block_cell (alloc_block w _)]
  rw [← hu]
  simp [Vl.cells, wV]
def sp3 : Sp := ⟨3, [wV 98]⟩
def sp5 : Sp := ⟨5, [wV 97]⟩
def sp5c : Sp := ⟨5, [wV 99]⟩
theorem g1 : addS [] sp5 = [sp5] ∧ (!hasT [] sp5.t) = true := ⟨rfl, rfl⟩
theorem g2 : addS [sp5] sp3 = [sp3, sp5] ∧ (!hasT [sp5] sp3.t) = true := ⟨rfl, rfl⟩
theorem g3 : addS [sp3, sp5] sp5c = [sp3, sp5] ∧ (!hasT [sp3, sp5] sp5c.t) = false := ⟨rfl, rfl⟩
theorem g4 : getT [sp3, sp5] 5 = [wV 97] ∧ hasT [sp3, sp5] 5 = true := ⟨rfl, rfl⟩
theorem g5 : rngS [sp3, sp5] 3 5 = [sp3, sp5] := rfl
theorem g6 : rngS [sp3, sp5] 4 9 = [sp5] := rfl
theorem g7 : rngS [sp3, sp5] 9 3 = [] := rfl
abbrev RkE (B : Nat) (w : World) (b : Nat) (l : List Sp) : Prop := ∃ sv pv, Rk B any w b sv pv l
theorem rkE_on {B : Nat} {w w' : World} {b : Nat} {l : List Sp} (h : RkE B w b l) (hb : Below w.heap.size w w') : RkE B w' b l := let ⟨sv, pv, h⟩ := h; ⟨sv, pv, h.on hb⟩
theorem add_is {B : Nat} {w : World} {b : Nat} {l l' : List Sp} {v : Value} {s : Sp} {q : Bool} (h : RkE B w b l) (hlen : l.length ≤ 255) (hv : RowAt w v s.vs) (hB : B ≤ w.heap.size) (hf : addS l s = l' ∧ (!hasT l s.t) = q) :
    Calls Try.prog 9 #[dp b, .int .i64 s.t, v] w fun e w' => e = .returned (.bool q) ∧ RkE B w' b l' ∧ Below B w w' := by
  obtain ⟨sv, pv, h⟩ := h
  refine (add_any h hlen hv (fun _ _ => trivial) hB).mono ?_
  rintro e w' ⟨rfl, sv', pv', h', hk, -⟩
  rw [hf.1] at h'
  rw [hf.2]
  exact ⟨rfl, ⟨sv', pv', h'⟩, hk.below hB h.T_ge⟩
theorem get_is {B : Nat} {w : World} {b : Nat} {l : List Sp} {r : Rw} {at' : Int} {q : Bool} (h : RkE B w b l) (hlen : l.length ≤ 1000) (hf : getT l at' = r ∧ hasT l at' = q) :
    Calls Try.prog 11 #[dp b, .int .i64 at'] w fun e w' => ∃ p c, e = .returned (.tuple #[.slice p (List.length r) c, .bool q]) ∧ RowAt w' (.slice p (List.length r) c) r ∧ Below w.heap.size w w' := by
  obtain ⟨sv, pv, h⟩ := h
  rw [← hf.1, ← hf.2]
  refine (get_any (Q := any) h hlen (fun _ _ => trivial)).mono ?_
  rintro e w' ⟨p, c, rfl, hr, hb⟩
  exact ⟨p, c, rfl, hr.at, hb⟩
theorem range_is {B : Nat} {w : World} {b : Nat} {l r : List Sp} {a z : Int} (h : RkE B w b l) (hlen : l.length ≤ 500) (hf : rngS l a z = r) :
    Calls Try.prog 15 #[dp b, .int .i64 a, .int .i64 z] w fun e w' => ∃ p c, e = .returned (.slice p r.length c) ∧ Smp w' (.slice p r.length c) r ∧ Below w.heap.size w w' := by
  obtain ⟨sv, pv, h⟩ := h
  subst hf
  refine (range_any (Q := any) h hlen (fun _ _ => trivial)).mono ?_
  rintro e w' ⟨v, hs, rfl, ho, hh, hb⟩
  have hl := Nat.le_trans (rng_len l a z) hlen
  have hs := own_smp ho hh (by omega)
  obtain ⟨p, c, hv, hx⟩ := hs
  exact ⟨p, c, by rw [hv], ⟨p, c, rfl, hx⟩, hb⟩
theorem len_is {B : Nat} {w : World} {b : Nat} {l : List Sp} {n : Int} (h : RkE B w b l) (hlen : l.length ≤ 1000) (hf : (l.length : Int) = n) :
    Calls Try.prog 14 #[dp b] w fun e w' => e = .returned (.int .i64 n) ∧ Below w.heap.size w w' := by
  obtain ⟨sv, pv, h⟩ := h
  rw [← hf]
  exact len_any h hlen
theorem span_is {B : Nat} {w : World} {b : Nat} {l : List Sp} {x y : Int} {q : Bool} (h : RkE B w b l) (hlen : l.length ≤ 1000) (hf : spF l = x ∧ spL l = y ∧ spS l = q) :
    Calls Try.prog 18 #[dp b] w fun e w' => e = .returned (.tuple #[.int .i64 x, .int .i64 y, .bool q]) ∧ Below w.heap.size w w' := by
  obtain ⟨sv, pv, h⟩ := h
  rw [← hf.1, ← hf.2.1, ← hf.2.2]
  exact span_any h hlen
theorem lit2 {w : World} {v1 v2 : Value} {x y : Sp} {p1 p2 : Option Addr} {c1 c2 n1 n2 : Nat} (e1 : v1 = .slice p1 n1 c1) (e2 : v2 = .slice p2 n2 c2) (l1 : List.length x.vs = n1) (l2 : List.length y.vs = n2) (h1 : RowAt w v1 x.vs) (h2 : RowAt w v2 y.vs) :
    Smp (w.alloc (.cells #[.int .i64 x.t, v1, .int .i64 y.t, v2] 32)) (.slice (some ⟨w.heap.size, 0, none⟩) 2 2) [x, y] := by
  have hb := (Below.refl w.heap.size w).alloc (Nat.le_refl _) (.cells #[.int .i64 x.t, v1, .int .i64 y.t, v2] 32)
  refine ⟨_, 2, rfl, Nat.le_refl _, fun j s hj => ?_⟩
  have hc := block_cell (alloc_block w (.cells #[.int .i64 x.t, v1, .int .i64 y.t, v2] 32))
  match j with
  | 0 =>
    simp at hj; subst hj
    exact ⟨_, 0, p1, c1, rfl, by rw [hc]; rfl, by rw [hc, l1, ← e1]; rfl, by rw [l1, ← e1]; exact h1.on hb⟩
  | 1 =>
    simp at hj; subst hj
    exact ⟨_, 0, p2, c2, rfl, by rw [hc]; rfl, by rw [hc, l2, ← e2]; rfl, by rw [l2, ← e2]; exact h2.on hb⟩
  | j + 2 => simp at hj
theorem lit1 {w : World} {v1 : Value} {x : Sp} {p1 : Option Addr} {c1 n1 : Nat} (e1 : v1 = .slice p1 n1 c1) (l1 : List.length x.vs = n1) (h1 : RowAt w v1 x.vs) :
    Smp (w.alloc (.cells #[.int .i64 x.t, v1] 32)) (.slice (some ⟨w.heap.size, 0, none⟩) 1 1) [x] := by
  have hb := (Below.refl w.heap.size w).alloc (Nat.le_refl _) (.cells #[.int .i64 x.t, v1] 32)
  refine ⟨_, 1, rfl, Nat.le_refl _, fun j s hj => ?_⟩
  have hc := block_cell (alloc_block w (.cells #[.int .i64 x.t, v1] 32))
  match j with
  | 0 =>
    simp at hj; subst hj
    exact ⟨_, 0, p1, c1, rfl, by rw [hc]; rfl, by rw [hc, l1, ← e1]; rfl, by rw [l1, ← e1]; exact h1.on hb⟩
  | j + 1 => simp at hj
set_option maxRecDepth 100000 in
set_option maxHeartbeats 4000000 in
theorem shown_any {w : World} : Calls Try.prog 6 #[] w fun e w' => e = .returned (.bool true) ∧ Below w.heap.size w w' := by
  have M0 : Hid True := trivial
  go_enter Try.func6, Try.ntmps6
  go_wp2_with (first
    | (go_at_call 7; refine (new_any (P := any)).mono ?_; rintro e w0 ⟨b, rfl, hd, hb1⟩; have HD0 : Hid (RkE w.heap.size w0 b []) := ⟨_, _, hd⟩; have HB0 := hid hb1; clear hd hb1)
    | (have FIRST := M0; go_at_call 18; refine (span_is HD0.out (by decide) ⟨rfl, rfl, rfl⟩).mono ?_; rintro e w1 ⟨rfl, hb2⟩; have HD1 := hid (rkE_on HD0.out hb2); have HB1 := hid (HB0.out.trans (hb2.mono HB0.out.size)); have M1 : Hid True := trivial; clear hb2 FIRST M0 HD0)
    | (have FIRST := M1; go_at_call 19; refine word_any.mono ?_; rintro e w2 ⟨p1, c1, rfl, hv2, hb2⟩; have HV := hid hv2; have HD2 := hid (rkE_on HD1.out hb2); have HB2 := hid (HB1.out.trans (hb2.mono HB1.out.size)); have M2 : Hid True := trivial; clear hv2 hb2 FIRST M1 HD1)
    | (have FIRST := M2; go_at_call 9; refine (add_is (s := sp5) HD2.out (by decide) HV.out HB2.out.size g1).mono ?_; rintro e w3 ⟨rfl, hd, hb3⟩; have HD3 := hid hd; have HB3 := hid (HB2.out.trans hb3); have M3 : Hid True := trivial; clear hd hb3 FIRST M2 HV HD2)
    | (have FIRST := M3; go_at_call 19; refine word_any.mono ?_; rintro e w4 ⟨p2, c2, rfl, hv2, hb2⟩; have HV := hid hv2; have HD4 := hid (rkE_on HD3.out hb2); have HB4 := hid (HB3.out.trans (hb2.mono HB3.out.size)); have M4 : Hid True := trivial; clear hv2 hb2 FIRST M3 HD3)
    | (have FIRST := M4; go_at_call 9; refine (add_is (s := sp3) HD4.out (by decide) HV.out HB4.out.size g2).mono ?_; rintro e w5 ⟨rfl, hd, hb3⟩; have HD5 := hid hd; have HB5 := hid (HB4.out.trans hb3); have M5 : Hid True := trivial; clear hd hb3 FIRST M4 HV HD4)
    | (have FIRST := M5; go_at_call 19; refine word_any.mono ?_; rintro e w6 ⟨p3, c3, rfl, hv2, hb2⟩; have HV := hid hv2; have HD6 := hid (rkE_on HD5.out hb2); have HB6 := hid (HB5.out.trans (hb2.mono HB5.out.size)); have M6 : Hid True := trivial; clear hv2 hb2 FIRST M5 HD5)
    | (have FIRST := M6; go_at_call 9; refine (add_is (s := sp5c) HD6.out (by decide) HV.out HB6.out.size g3).mono ?_; rintro e w7 ⟨rfl, hd, hb3⟩; have HD7 := hid hd; have HB7 := hid (HB6.out.trans hb3); have M7 : Hid True := trivial; clear hd hb3 FIRST M6 HV HD6)
    | (have FIRST := M7; go_at_call 11; refine (get_is HD7.out (by decide) g4).mono ?_; rintro e w8 ⟨p8, c8, rfl, hr8, hb3⟩; have HR8 := hid hr8; have HD8 := hid (rkE_on HD7.out hb3); have HB8 := hid (HB7.out.trans (hb3.mono HB7.out.size)); have M8 : Hid True := trivial; clear hr8 hb3 FIRST M7 HD7)
    | (have FIRST := M8; go_at_call 15; refine (range_is HD8.out (by decide) g5).mono ?_; rintro e w9 ⟨p9, c9, rfl, hr9, hb3⟩; have HS9 := hid hr9; have HR9 := hid (HR8.out.on hb3); have HD9 := hid (rkE_on HD8.out hb3); have HB9 := hid (HB8.out.trans (hb3.mono HB8.out.size)); have M9 : Hid True := trivial; clear hr9 hb3 FIRST M8 HD8 HR8)
    | (have FIRST := M9; go_at_call 19; refine word_any.mono ?_; rintro e w10 ⟨p10, c10, rfl, hv2, hb2⟩; have HV1 := hid hv2; have HS10 := hid (HS9.out.on hb2); have HR10 := hid (HR9.out.on hb2); have HD10 := hid (rkE_on HD9.out hb2); have HB10 := hid (HB9.out.trans (hb2.mono HB9.out.size)); have M10 : Hid True := trivial; clear hv2 hb2 FIRST M9 HD9 HS9 HR9)
    | (have FIRST := M10; go_at_call 19; refine word_any.mono ?_; rintro e w11 ⟨p11, c11, rfl, hv2, hb2⟩; have HV2 := hid hv2; have HV1' := hid (HV1.out.on hb2); have HS11 := hid (HS10.out.on hb2); have HR11 := hid (HR10.out.on hb2); have HD11 := hid (rkE_on HD10.out hb2); have HB11 := hid (HB10.out.trans (hb2.mono HB10.out.size)); have M11 : Hid True := trivial; clear hv2 hb2 FIRST M10 HD10 HS10 HR10 HV1)
    | (have FIRST := M11; go_at_call 16; have hba := (Below.refl w11.heap.size w11).alloc (Nat.le_refl _) (.cells #[.int .i64 3, .slice p10 1 c10, .int .i64 5, .slice p11 1 c11] 32); refine (same_is (HS11.out.on hba) (lit2 (x := sp3) (y := sp5) rfl rfl rfl rfl HV1'.out HV2.out) (by decide) (by decide) (decide_eq_true rfl)).mono ?_; rintro e w12 ⟨rfl, hb3⟩; have hb4 := hba.trans (hb3.mono hba.size); have HR12 := hid (HR11.out.on hb4); have HD12 := hid (rkE_on HD11.out hb4); have HB12 := hid (HB11.out.trans (hb4.mono HB11.out.size)); have M12 : Hid True := trivial; clear hb3 hb4 hba FIRST M11 HD11 HS11 HR11 HV1' HV2)
    | (have FIRST := M12; go_at_call 15; refine (range_is HD12.out (by decide) g6).mono ?_; rintro e w13 ⟨p13, c13, rfl, hr9, hb3⟩; have HS13 := hid hr9; have HR13 := hid (HR12.out.on hb3); have HD13 := hid (rkE_on HD12.out hb3); have HB13 := hid (HB12.out.trans (hb3.mono HB12.out.size)); have M13 : Hid True := trivial; clear hr9 hb3 FIRST M12 HD12 HR12)
    | (have FIRST := M13; go_at_call 19; refine word_any.mono ?_; rintro e w14 ⟨p14, c14, rfl, hv2, hb2⟩; have HV1 := hid hv2; have HS14 := hid (HS13.out.on hb2); have HR14 := hid (HR13.out.on hb2); have HD14 := hid (rkE_on HD13.out hb2); have HB14 := hid (HB13.out.trans (hb2.mono HB13.out.size)); have M14 : Hid True := trivial; clear hv2 hb2 FIRST M13 HD13 HS13 HR13)
    | (have FIRST := M14; go_at_call 16; have hba := (Below.refl w14.heap.size w14).alloc (Nat.le_refl _) (.cells #[.int .i64 5, .slice p14 1 c14] 32); refine (same_is (HS14.out.on hba) (lit1 (x := sp5) rfl rfl HV1.out) (by decide) (by decide) (decide_eq_true rfl)).mono ?_; rintro e w15 ⟨rfl, hb3⟩; have hb4 := hba.trans (hb3.mono hba.size); have HR15 := hid (HR14.out.on hb4); have HD15 := hid (rkE_on HD14.out hb4); have HB15 := hid (HB14.out.trans (hb4.mono HB14.out.size)); have M15 : Hid True := trivial; clear hb3 hb4 hba FIRST M14 HD14 HS14 HR14 HV1)
    | (have FIRST := M15; go_at_call 18; refine (span_is (x := 3) (y := 5) (q := true) HD15.out (by decide) ⟨rfl, rfl, rfl⟩).mono ?_; rintro e w16 ⟨rfl, hb2⟩; have HR16 := hid (HR15.out.on hb2); obtain ⟨g3, o3, rfl, z3⟩ := row_vals (j := 0) HR16.out rfl; have z3' : w16.cell? ⟨g3, o3 + 2, none⟩ = some (.string ⟨#[97]⟩) := (by have := z3.c2; rwa [Nat.zero_mul, Nat.add_zero] at this); have HD16 := hid (rkE_on HD15.out hb2); have HB16 := hid (HB15.out.trans (hb2.mono HB15.out.size)); have M16 : Hid True := trivial; clear hb2 FIRST M15 HD15 HR15 z3)
    | (have FIRST := M16; go_at_call 14; refine (len_is (n := 2) HD16.out (by decide) rfl).mono ?_; rintro e w17 ⟨rfl, hb2⟩; have HD17 := hid (rkE_on HD16.out hb2); have HB17 := hid (HB16.out.trans (hb2.mono HB16.out.size)); have M17 : Hid True := trivial; clear hb2 FIRST M16 HD16)
    | (have FIRST := M17; go_at_call 15; refine (range_is HD17.out (by decide) g7).mono ?_; rintro e w18 ⟨p18, c18, rfl, -, hb3⟩; have HB18 := hid (HB17.out.trans (hb3.mono HB17.out.size)); clear hb3 FIRST M17 HD17))
  go_ret
  exact ⟨rfl, HB18.out⟩
end Go.Proofs.Ytkjbnanjlcdgjaa
