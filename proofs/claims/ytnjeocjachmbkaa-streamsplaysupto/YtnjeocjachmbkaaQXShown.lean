/-
  The document's examples, run: what the statements' head returns.
-/
import Derived.Test.YtnjeocjachmbkaaQXSame
namespace Go.Proofs.Ytnjeocjachmbkaa
open Go.RowKit Go.Sort Go.Maps

def vI (n : Int) : Vl := ⟨1, n, ⟨#[]⟩, 0, 0, 0, 0, 0, 0, 0, 0, small0⟩
def sA (n : Int) : Sm := ⟨⟨#[97]⟩, [vI n]⟩
def sB (n : Int) : Sm := ⟨⟨#[98]⟩, [vI n]⟩
theorem ok_vI (n : Int) : okK [vI n] = true := by simp [okK, vI, validL, validB, zeroH, eqH, noText]
theorem rng_vI {n : Int} (h : Rg n) : ∀ x ∈ [vI n], Rng x := by
  intro x hx; simp at hx; subst hx
  have z : Rg 0 := by unfold Rg; omega
  exact ⟨h, z, z, z, z, z, z, z, z⟩
theorem sA_ne {a b : Int} (h : a ≠ b) : sA a ≠ sA b := by
  intro e; simp [sA, vI] at e; exact h e
theorem sAB_ne {a b : Int} : sB a ≠ sA b := by
  intro e; simp [sA, sB] at e
theorem f1 : addL 2 [] (sA 1) = [sA 1] ∧ addI 2 [] (sA 1) = 0 ∧ addE 2 [] (sA 1) = 0 := by
  have h : okK (sA 1).ks = true := ok_vI 1
  refine ⟨?_, ?_, ?_⟩
  · unfold addL; rw [h]; simp [memS, fullB]
  · unfold addI; rw [h]; simp [fullB]
  · unfold addE; rw [h]; simp [fullB]
theorem f2 : addL 2 [sA 1] (sA 2) = [sA 1, sA 2] ∧ addI 2 [sA 1] (sA 2) = 1 ∧ addE 2 [sA 1] (sA 2) = 0 := by
  have h : okK (sA 2).ks = true := ok_vI 2
  have hn : sA 2 ≠ sA 1 := sA_ne (by decide)
  refine ⟨?_, ?_, ?_⟩
  · unfold addL; rw [h]; simp [memS, fullB, hn]
  · unfold addI; rw [h]; simp [fullB, hn]
  · unfold addE; rw [h]; simp [fullB, hn]
theorem f3 : addL 2 [sA 1, sA 2] (sA 1) = [sA 1, sA 2] ∧ addI 2 [sA 1, sA 2] (sA 1) = 0 ∧ addE 2 [sA 1, sA 2] (sA 1) = 0 := by
  have h : okK (sA 1).ks = true := ok_vI 1
  refine ⟨?_, ?_, ?_⟩
  · unfold addL; rw [h]; simp [memS, fullB]
  · unfold addI; rw [h]; simp [posS]
  · unfold addE; rw [h]; simp
theorem f4 : addL 2 [sA 1, sA 2] (sB 1) = [sA 1, sA 2] ∧ addI 2 [sA 1, sA 2] (sB 1) = 0 ∧ addE 2 [sA 1, sA 2] (sB 1) = 80 := by
  have h : okK (sB 1).ks = true := ok_vI 1
  have h1 : sB 1 ≠ sA 1 := sAB_ne
  have h2 : sB 1 ≠ sA 2 := sAB_ne
  refine ⟨?_, ?_, ?_⟩
  · unfold addL; rw [h]; simp [memS, fullB]
  · unfold addI; rw [h]; simp [fullB, h1, h2]
  · unfold addE; rw [h]; simp [fullB, h1, h2]
theorem f5 : findI [sA 1, sA 2] (sA 2) = 1 ∧ memS [sA 1, sA 2] (sA 2) = true := by
  have h1 : sA 1 ≠ sA 2 := sA_ne (by decide)
  refine ⟨?_, ?_⟩
  · unfold findI; simp [posS, h1]
  · simp [memS]
theorem f6 : findI [sA 1, sA 2] (sA 3) = 0 ∧ memS [sA 1, sA 2] (sA 3) = false := by
  have h1 : sA 3 ≠ sA 1 := sA_ne (by decide)
  have h2 : sA 3 ≠ sA 2 := sA_ne (by decide)
  refine ⟨?_, ?_⟩
  · unfold findI; simp [h1, h2]
  · simp [memS, h1, h2]
theorem f7 : ofL ⟨#[97]⟩ 0 [sA 1, sA 2] = [0, 1] := by simp [ofL, sA]
theorem f8 : keyS [sA 1, sA 2] 1 = sA 2 ∧ inB [sA 1, sA 2] 1 = true := keyS_in (k := 1) rfl
set_option maxRecDepth 100000 in
set_option maxHeartbeats 400000 in
theorem one_any {n : Int} {w : World} :
    Calls Try.prog 35 #[.int .i64 n] w fun e w' => ∃ v, e = .returned v ∧ RowAt w' v [vI n] ∧ Below w.heap.size w w' := by
  go_enter Try.func35, Try.ntmps35
  go_wp2
  go_ret
  refine ⟨_, rfl, ⟨_, 1, rfl, ⟨Nat.le_refl _, fun e => by cases e⟩, by simp [maxLen], fun _ => ⟨_, 0, rfl, ⟨trivial, by simp [bsz]⟩, fun j x hj i u hu => ?_⟩⟩, (Below.refl _ _).alloc (Nat.le_refl _) _⟩
  have hj0 : j = 0 := by have := (List.getElem?_eq_some_iff.1 hj).1; simp at this; omega
  subst hj0
  simp at hj
  subst hj
  rw [block_cell (alloc_block w _)]
  rw [← hu]
  simp [Vl.cells, vI]
theorem ints_cell {w : World} {p : Option Addr} {n c : Nat} {xs : List Int} {j : Nat} {x : Int} (h : IntsAt w (.slice p n c) xs) (hj : xs[j]? = some x) : ∃ g o, p = some ⟨g, o, none⟩ ∧ w.cell? ⟨g, o + j, none⟩ = some (.int .i64 x) := by
  obtain ⟨p', c', hv, -, -, hx⟩ := h
  have hlt := (List.getElem?_eq_some_iff.1 hj).1
  obtain ⟨g, o, hp, -, hc⟩ := hx (by intro e; subst e; simp at hlt)
  have := hc j x hj 0 _ rfl
  injection hv with h1
  refine ⟨g, o, h1.trans hp, ?_⟩
  rw [Nat.mul_one, Nat.add_zero] at this
  exact this
theorem row_vals {w : World} {p : Option Addr} {n c : Nat} {r : Rw} {j : Nat} {x : Vl} (h : RowAt w (.slice p n c) r) (hj : r[j]? = some x) : ∃ g o, p = some ⟨g, o, none⟩ ∧ ValCells w g (o + j * 11) x := by
  obtain ⟨p', c', hv, -, -, hx⟩ := h
  have hlt := (List.getElem?_eq_some_iff.1 hj).1
  obtain ⟨g, o, hp, -, hc⟩ := hx (by intro e; subst e; simp at hlt)
  injection hv with h1
  exact ⟨g, o, h1.trans hp, val_cells (hc j x hj)⟩
theorem add_is {B : Nat} {w : World} {b : Nat} {most : Int} {m : Nat} {l l' : List Sm} {v : Value} {s : Sm} {i e0 : Int} (h : ∃ sv, Dk B any w b most sv m l) (hv : RowAt w v s.ks) (hl : List.length s.ks ≤ 2000000) (hn : s.nm.size ≤ 2000000) (hr : ∀ x ∈ s.ks, Rng x)
    (hlen : l.length ≤ 1000) (hB : B ≤ w.heap.size) (hf : addL most l s = l' ∧ addI most l s = i ∧ addE most l s = e0) : Calls Try.prog 15 #[dp b, .string s.nm, v] w fun e w' => e = .returned (.tuple #[.int .i64 i, .int .i64 e0]) ∧ (∃ sv', Dk B any w' b most sv' m l') ∧ Below B w w' := by
  obtain ⟨sv, h⟩ := h
  obtain ⟨h1, h2, h3⟩ := hf
  refine (add_any h hv hl hn hr hlen (fun _ _ => trivial) hB).mono ?_
  rintro e w' ⟨rfl, hd, hk⟩
  rw [h1] at hd
  rw [h2, h3]
  exact ⟨rfl, hd, hk.below hB h.T_ge⟩
theorem find_is {B : Nat} {w : World} {b : Nat} {most : Int} {m : Nat} {l : List Sm} {v : Value} {s : Sm} {i : Int} {e0 : Bool} (h : ∃ sv, Dk B any w b most sv m l) (hv : RowAt w v s.ks) (hl : List.length s.ks ≤ 2000000) (hn : s.nm.size ≤ 2000000) (hr : ∀ x ∈ s.ks, Rng x)
    (hf : findI l s = i ∧ memS l s = e0) : Calls Try.prog 16 #[dp b, .string s.nm, v] w fun e w' => e = .returned (.tuple #[.int .i64 i, .bool e0]) ∧ Below w.heap.size w w' := by
  obtain ⟨sv, h⟩ := h
  rw [← hf.1, ← hf.2]
  exact find_any h hv hl hn hr
theorem dkE_on {B : Nat} {w w' : World} {b : Nat} {most : Int} {m : Nat} {l : List Sm} (h : ∃ sv, Dk B any w b most sv m l) (hb : Below w.heap.size w w') : ∃ sv, Dk B any w' b most sv m l := let ⟨sv, h⟩ := h; ⟨sv, h.on hb⟩
theorem of_is {B : Nat} {w : World} {b : Nat} {most : Int} {m : Nat} {l : List Sm} {nm : ByteArray} {xs : List Int} (h : ∃ sv, Dk B any w b most sv m l) (hlen : l.length ≤ 1000) (hf : ofL nm 0 l = xs) :
    Calls Try.prog 20 #[dp b, .string nm] w fun e w' => ∃ p c, e = .returned (.slice p xs.length c) ∧ IntsAt w' (.slice p xs.length c) xs ∧ Below w.heap.size w w' := by
  obtain ⟨sv, h⟩ := h
  rw [← hf]
  exact of_any h hlen
theorem keys_is {B : Nat} {w : World} {b : Nat} {most : Int} {m : Nat} {l : List Sm} {i : Int} {s : Sm} {e0 : Bool} (h : ∃ sv, Dk B any w b most sv m l) (hlen : l.length ≤ 1000) (hf : keyS l i = s ∧ inB l i = e0) :
    Calls Try.prog 22 #[dp b, .int .i64 i] w fun e w' => ∃ p c, e = .returned (.tuple #[.string s.nm, .slice p (List.length s.ks) c, .bool e0]) ∧ RowAt w' (.slice p (List.length s.ks) c) s.ks ∧ Below w.heap.size w w' := by
  obtain ⟨sv, h⟩ := h
  rw [← hf.1, ← hf.2]
  exact keys_any h hlen
theorem len_is {B : Nat} {w : World} {b : Nat} {most : Int} {m : Nat} {l : List Sm} {n : Int} (h : ∃ sv, Dk B any w b most sv m l) (hf : (l.length : Int) = n) :
    Calls Try.prog 19 #[dp b] w fun e w' => e = .returned (.int .i64 n) ∧ w' = w := by
  obtain ⟨sv, h⟩ := h
  rw [← hf]
  exact len_any h
theorem keys_shown {B : Nat} {w : World} {b : Nat} {most : Int} {m : Nat} (h : ∃ sv, Dk B any w b most sv m [sA 1, sA 2]) :
    Calls Try.prog 22 #[dp b, .int .i64 1] w fun e w' => ∃ p c, e = .returned (.tuple #[.string ⟨#[97]⟩, .slice p 1 c, .bool true]) ∧ RowAt w' (.slice p 1 c) [vI 2] ∧ Below w.heap.size w w' := keys_is h (by decide) f8
set_option maxRecDepth 100000 in
set_option maxHeartbeats 2000000 in
theorem shown_any {w : World} : Calls Try.prog 12 #[] w fun e w' => e = .returned (.bool true) ∧ Below w.heap.size w w' := by
  have M0 : Hid True := trivial
  have R1 := hid (rng_vI (n := 1) (by unfold Rg; omega))
  have R2 := hid (rng_vI (n := 2) (by unfold Rg; omega))
  have R3 := hid (rng_vI (n := 3) (by unfold Rg; omega))
  go_enter Try.func12, Try.ntmps12
  go_wp2_with (first
    | (go_at_call 13; refine (new_any (P := any)).mono ?_; rintro e w0 ⟨b, m, rfl, hd, hb1⟩; have HD0 : Hid (∃ sv, Dk w.heap.size any w0 b 2 sv m []) := ⟨_, hd⟩; have HB0 := hid hb1; clear hd hb1)
    | (have FIRST := M0; go_at_call 35; refine one_any.mono ?_; rintro e w1 ⟨v1, rfl, hv2, hb2⟩; have HV := hid hv2; have HD1 := hid (dkE_on HD0.out hb2); have HB1 := hid (HB0.out.trans (hb2.mono HB0.out.size)); have M1 : Hid True := trivial; clear hv2 hb2 FIRST M0 HD0)
    | (have FIRST := M1; go_at_call 15; refine (add_is (s := sA 1) HD1.out HV.out (by decide) (by decide) R1.out (by decide) HB1.out.size f1).mono ?_; rintro e w2 ⟨rfl, hd, hb3⟩; have HD2 := hid hd; have HB2 := hid (HB1.out.trans hb3); have M2 : Hid True := trivial; clear hd hb3 FIRST M1 HV HD1)
    | (have FIRST := M2; go_at_call 35; refine one_any.mono ?_; rintro e w3 ⟨v3, rfl, hv2, hb2⟩; have HV := hid hv2; have HD3 := hid (dkE_on HD2.out hb2); have HB3 := hid (HB2.out.trans (hb2.mono HB2.out.size)); have M3 : Hid True := trivial; clear hv2 hb2 FIRST M2 HD2)
    | (have FIRST := M3; go_at_call 15; refine (add_is (s := sA 2) HD3.out HV.out (by decide) (by decide) R2.out (by decide) HB3.out.size f2).mono ?_; rintro e w4 ⟨rfl, hd, hb3⟩; have HD4 := hid hd; have HB4 := hid (HB3.out.trans hb3); have M4 : Hid True := trivial; clear hd hb3 FIRST M3 HV HD3)
    | (have FIRST := M4; go_at_call 35; refine one_any.mono ?_; rintro e w5 ⟨v5, rfl, hv2, hb2⟩; have HV := hid hv2; have HD5 := hid (dkE_on HD4.out hb2); have HB5 := hid (HB4.out.trans (hb2.mono HB4.out.size)); have M5 : Hid True := trivial; clear hv2 hb2 FIRST M4 HD4)
    | (have FIRST := M5; go_at_call 15; refine (add_is (s := sA 1) HD5.out HV.out (by decide) (by decide) R1.out (by decide) HB5.out.size f3).mono ?_; rintro e w6 ⟨rfl, hd, hb3⟩; have HD6 := hid hd; have HB6 := hid (HB5.out.trans hb3); have M6 : Hid True := trivial; clear hd hb3 FIRST M5 HV HD5)
    | (have FIRST := M6; go_at_call 35; refine one_any.mono ?_; rintro e w7 ⟨v7, rfl, hv2, hb2⟩; have HV := hid hv2; have HD7 := hid (dkE_on HD6.out hb2); have HB7 := hid (HB6.out.trans (hb2.mono HB6.out.size)); have M7 : Hid True := trivial; clear hv2 hb2 FIRST M6 HD6)
    | (have FIRST := M7; go_at_call 15; refine (add_is (s := sB 1) HD7.out HV.out (by decide) (by decide) R1.out (by decide) HB7.out.size f4).mono ?_; rintro e w8 ⟨rfl, hd, hb3⟩; have HD8 := hid hd; have HB8 := hid (HB7.out.trans hb3); have M8 : Hid True := trivial; clear hd hb3 FIRST M7 HV HD7)
    | (have FIRST := M8; go_at_call 35; refine one_any.mono ?_; rintro e w9 ⟨v9, rfl, hv2, hb2⟩; have HV := hid hv2; have HD9 := hid (dkE_on HD8.out hb2); have HB9 := hid (HB8.out.trans (hb2.mono HB8.out.size)); have M9 : Hid True := trivial; clear hv2 hb2 FIRST M8 HD8)
    | (have FIRST := M9; go_at_call 16; refine (find_is (s := sA 2) HD9.out HV.out (by decide) (by decide) R2.out f5).mono ?_; rintro e w10 ⟨rfl, hb3⟩; have HD10 := hid (dkE_on HD9.out hb3); have HB10 := hid (HB9.out.trans (hb3.mono HB9.out.size)); have M10 : Hid True := trivial; clear hb3 FIRST M9 HV HD9)
    | (have FIRST := M10; go_at_call 35; refine one_any.mono ?_; rintro e w11 ⟨v11, rfl, hv2, hb2⟩; have HV := hid hv2; have HD11 := hid (dkE_on HD10.out hb2); have HB11 := hid (HB10.out.trans (hb2.mono HB10.out.size)); have M11 : Hid True := trivial; clear hv2 hb2 FIRST M10 HD10)
    | (have FIRST := M11; go_at_call 16; refine (find_is (s := sA 3) HD11.out HV.out (by decide) (by decide) R3.out f6).mono ?_; rintro e w12 ⟨rfl, hb3⟩; have HD12 := hid (dkE_on HD11.out hb3); have HB12 := hid (HB11.out.trans (hb3.mono HB11.out.size)); have M12 : Hid True := trivial; clear hb3 FIRST M11 HV HD11)
    | (go_at_call 20; refine (of_is (nm := ⟨#[97]⟩) HD12.out (by decide) f7).mono ?_; rintro e w13 ⟨p20, c20, rfl, hi, hb3⟩; have HI := hid hi; have HD13 := hid (dkE_on HD12.out hb3); have HB13 := hid (HB12.out.trans (hb3.mono HB12.out.size)); clear hi hb3 HD12)
    | (go_at_call 22; refine (keys_shown HD13.out).mono ?_; rintro e w14 ⟨p22, c22, rfl, hr, hb3⟩; obtain ⟨g3, o3, rfl, z3⟩ := row_vals (j := 0) hr rfl; have z3' : w14.cell? ⟨g3, o3 + 1, none⟩ = some (.int .i64 2) := (by have := z3.c1; rwa [Nat.zero_mul, Nat.add_zero] at this); obtain ⟨g4, o4, rfl, z4⟩ := ints_cell (j := 1) (HI.out.on hb3) rfl; have HD14 := hid (dkE_on HD13.out hb3); have HB14 := hid (HB13.out.trans (hb3.mono HB13.out.size)); clear hr hb3 HD13 z3)
    | (go_at_call 19; refine (len_is (n := 2) HD14.out rfl).mono ?_; rintro e w15 ⟨rfl, rfl⟩))
  go_ret
  exact ⟨rfl, HB14.out⟩
end Go.Proofs.Ytnjeocjachmbkaa
