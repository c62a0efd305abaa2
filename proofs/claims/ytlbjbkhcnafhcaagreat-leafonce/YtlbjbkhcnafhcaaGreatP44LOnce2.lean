/-
  What LeafOnce returns, for all numbers.
  Numbers as an argument, opened as their type says.
-/
import Derived.Test.YtlbjbkhcnafhcaaGreatQLOnce
namespace Go.Proofs.YtlbjbkhcnafhcaaGreat
open Go.RowKit Go.Sort Go.Shelf Go.Maps

theorem same_g {u v : Value} {cs ds : List Cl} {rs qs : List Rw} {w : World} {z : Bool} (hu : TabAt w u cs rs) (hv : TabAt w v ds qs) (h : decide (cs = ds ∧ rs = qs) = z) : Calls Tryz.prog 15 #[u, v] w fun e w' => e = .returned (.bool z) ∧ Below w.heap.size w w' := by rw [← h]; exact rsame_any hu hv
theorem scan_g {w0 w : World} {b : Nat} {S : List Sc} {room : Int} {x : Lx} {pts : List Pt} {nm : ByteArray} {a z : Int} {er : Int} {cs : List Cl} {rs : List Rw} (h : Lv w0 w b S room x pts) (hc : checkS S = 0) (hl : pts.length ≤ 254) (hz : ∀ p ∈ pts, List.length p.ks ≤ 4 ∧ List.length p.vs ≤ 4) (e1 : scE S nm = er) (e2 : scC S nm = cs) (e3 : scR S pts nm a z = rs) :
    Calls Tryz.prog 13 #[dp b, .string nm, .int .i64 a, .int .i64 z] w fun e w' => ∃ pc nc cc pr cr, e = .returned (.tuple #[.agg #[.slice pc nc cc, .slice pr rs.length cr], .int .i64 er]) ∧ TabAt w' (.agg #[.slice pc nc cc, .slice pr rs.length cr]) cs rs ∧ Below w.heap.size w w' := by
  refine (scan_v h hc hl hz e1 e2 e3).mono ?_
  rintro e w' ⟨v, rfl, ht, hb⟩
  obtain ⟨pc, nc, cc, pr, cr, rfl⟩ := tab_len ht
  exact ⟨pc, nc, cc, pr, cr, rfl, ht.at, hb⟩
theorem fst_le {X : List (Nat × Nat)} {k : Nat} : (fstP ((X.take k).map pO)).length ≤ k := Nat.le_trans (fstP_len _) (by rw [List.length_map, List.length_take]; omega)
theorem ok_take {X : List (Nat × Nat)} (h : Ok7 X) (k : Nat) : Ok7 (X.take k) := fun x hx => h x (List.mem_of_mem_take hx)
theorem ok_rot {X : List (Nat × Nat)} (h : Ok7 X) (r : Nat) : Ok7 (rotX X r) := fun x hx => h x ((rot_mem x).1 hx)
theorem rng_pO (x : Nat × Nat) : ∀ v ∈ (pO x).ks, SN.Rng v := rng_load _ _ _
theorem ap_step {a b : Nat} {xa xb xa' : Lx} {n : Nat} (h : ∀ k, Tl a xa k → ¬ Tl b xb k) (hb : ∀ k, Tl b xb k → k < n) (hn : ∀ k, Tl a xa' k → Tl a xa k ∨ n ≤ k) : ∀ k, Tl a xa' k → ¬ Tl b xb k := fun k h1 h2 => by
  rcases hn k h1 with h3 | h3
  · exact h k h3 h2
  · have := hb k h2; omega
theorem tmod_nat (r n : Nat) : (r : Int).tmod (n : Int) = ((r % n : Nat) : Int) := (Int.ofNat_tmod r n).symm
theorem tmod_abs (x : Int) (m : Nat) (hm : 0 < m) : ∃ h : Nat, h < m ∧ (x.tmod m = (h : Int) ∨ (x.tmod m = -(h : Int) ∧ 0 < h)) := by
  refine ⟨x.natAbs % m, Nat.mod_lt _ hm, ?_⟩
  rcases Int.natAbs_eq x with e | e
  · left
    rw [e]
    simp only [Int.natAbs_natCast]
    exact Int.ofNat_tmod _ _
  · by_cases h0 : x.natAbs % m = 0
    · left
      rw [h0, e, Int.neg_tmod, ← Int.ofNat_tmod, h0]; rfl
    · right
      refine ⟨?_, by omega⟩
      conv => lhs; rw [e]
      rw [Int.neg_tmod, ← Int.ofNat_tmod]
theorem tmod7 (x : Int) : ∃ h : Nat, h < 7 ∧ (x.tmod 7 = (h : Int) ∨ (x.tmod 7 = -(h : Int) ∧ 0 < h)) := tmod_abs x 7 (by decide)
theorem tmod50 (x : Int) : ∃ h : Nat, h < 50 ∧ (x.tmod 50 = (h : Int) ∨ (x.tmod 50 = -(h : Int) ∧ 0 < h)) := tmod_abs x 50 (by decide)
theorem pt_pO {h t : Nat} : ptL ⟨#[UInt8.ofNat (97 + h)]⟩ (show 1 ≤ maxLen by decide) (t : Int) (100 * (h : Int) + (t : Int)) = pO (h, t) := by
  unfold pO
  congr 1
theorem bs72 {n m : Nat} (h : n ≤ 1000) (h' : m ≤ 1000) : (n + m) * 72 ≤ 140737488355328 := by omega
theorem byteH (h : Nat) (hh : h < 7) : ((UInt8.ofNat (97 + h)).toNat : Int) = 97 + (h : Int) := by
  rw [UInt8.toNat_ofNat']
  omega
theorem snocX {X : List (Nat × Nat)} {h t : Nat} : (X ++ [(h, t)]).map pO = X.map pO ++ [pO (h, t)] := by simp
set_option maxRecDepth 100000 in
set_option maxHeartbeats 8000000 in
theorem once_any {w : World} {u v : Value} {H T : List Int} {at' : Int} (hu : IntA w u H) (hv : IntA w v T) (hat : Ok64 at') :
    Calls Tryz.prog 4 #[u, v, .int .i64 at'] w fun e w' => e = .returned (.bool true) ∧ Below w.heap.size w w' := by
  obtain ⟨pH, capH, rfl, hcH, hmH, hoH, hxH⟩ := hu
  obtain ⟨pT, capT, rfl, hcT, hmT, hoT, hxT⟩ := hv
  have HoH := hid hoH
  have HoT := hid hoT
  have HxH := hid hxH
  have HxT := hid hxT
  have HAt := hid hat
  unfold maxLen at hmH hmT
  clear hoH hoT hxH hxT hat
  generalize hnH : H.length = nH at *
  generalize hnT : T.length = nT at *
  have HnH := hid hnH
  have HnT := hid hnT
  clear hnH hnT
  have M1 : Hid True := trivial
  go_enter Tryz.func4, Tryz.ntmps4
  go_upto_region 6 with (first
    | (go_at_call 7; refine shown_is.mono ?_; rintro e w1 ⟨rfl, hb1⟩; have HB1 := hid hb1; clear hb1)
    | (have FIRST := M1; go_at_call 17; refine load_any.mono ?_; rintro e w2 ⟨v2, rfl, hs2, hb2⟩; have HS2 := hid hs2; have HB2 := hid (HB1.out.trans (hb2.mono HB1.out.size)); clear hs2 hb2 FIRST)
    | (have FIRST := M1; go_at_call 8; refine (new_v (room := 1000) HS2.out check_load HB2.out).mono ?_; rintro e w3 ⟨a, xa, rfl, hl3, -, -⟩; have HA3 := hid hl3; have M2 : Hid True := trivial; clear hl3 FIRST M1)
    | (have FIRST := M2; go_at_call 17; refine load_any.mono ?_; rintro e w4 ⟨v4, rfl, hs4, hb4⟩; have HS4 := hid hs4; have HA4 := hid (HA3.out.on hb4); have HB4 := hid HA4.out.bel; clear hs4 hb4 FIRST)
    | (have FIRST := M2; go_at_call 8; refine (new_v (room := 1000) HS4.out check_load HB4.out).mono ?_; rintro e w5 ⟨b, xb, rfl, hl5, hb5, ht5⟩; have HA5 := hid (HA4.out.on hb5); have HB5 := hid hl5; have HAp : Hid (∀ k, Tl a xa k → ¬ Tl b xb k) := (fun k h1 h2 => by have := HA4.out.T_lt k h1; have := ht5 k h2; omega); clear hl5 hb5 ht5 FIRST M2))
  obtain ⟨n, hn⟩ : ∃ n : Nat, n = min (min nH nT) 100 := ⟨_, rfl⟩
  go_cut [12] from 58 to 62 (fun cv wx => cv = .int .i64 (n : Int) ∧ wx = w5)
  case first =>
    go_wp2
    all_goals
      go_meet
      exact ⟨by congr 1; omega, rfl⟩
  case rest =>
    obtain ⟨hcv, hwc⟩ := hcut
    subst hcv
    replace hwc := hwc.symm
    subst hwc
    have hnH : n ≤ nH := by omega
    have hnT : n ≤ nT := by omega
    have hn100 : n ≤ 100 := by omega
    clear hn
    go_wp2_with fail
    have hbA := (Below.refl w5.heap.size w5).alloc (Nat.le_refl _) (.cells #[] 34)
    have HO0 := hid (Own.made Ph.cells 4 34 w5.heap.size w5 (Nat.le_refl _))
    go_loopw [13, 14] (fun v i wr => ∃ (k : Nat) (X : List (Nat × Nat)), k ≤ n ∧ i = .int .i64 k ∧ Hid (X.length = k ∧ Ok7 X) ∧ Hid (PL w5.heap.size wr v (X.map pO)) ∧ Hid (Below w5.heap.size w5 wr)) (fun _ i _ => n - (intOf i).toNat)
    case atStart => exact ⟨0, [], by omega, rfl, ⟨rfl, fun x hx => by cases hx⟩, ⟨[], HO0.out, rfl, fun j h s h1 _ => by simp at h1⟩, hbA⟩
    case round =>
      obtain ⟨k, X, hk, rfl, HX, HPL, HB⟩ := hrel
      obtain ⟨W1, hW1⟩ : ∃ W, W = wr := ⟨wr, rfl⟩
      subst hW1
      by_cases hlt : k < n
      · have hkH : k < H.length := by rw [HnH.out]; omega
        have hkT : k < T.length := by rw [HnT.out]; omega
        obtain ⟨gH, oH, rfl, cH⟩ := HxH.out k _ (List.getElem?_eq_getElem hkH)
        obtain ⟨gT, oT, rfl, cT⟩ := HxT.out k _ (List.getElem?_eq_getElem hkT)
        have hbw : Below w.heap.size w W1 := HA5.out.bel.trans (HB.out.mono HA5.out.bel.size)
        have dH := SN.cell_onB cH hbw
        have dT := SN.cell_onB cT hbw
        generalize H[k] = xh at dH cH
        generalize T[k] = xt at dT cT
        obtain ⟨h, hh7, hhr⟩ := tmod7 xh
        obtain ⟨t, ht50, htr⟩ := tmod50 xt
        have HOk : Hid (Ok7 (X ++ [(h, t)])) := fun x hx => by
          rcases List.mem_append.1 hx with hx | hx
          · exact HX.out.2 x hx
          · simp at hx; subst hx; exact ⟨hh7, ht50⟩
        obtain ⟨hs, hO, hH⟩ := HPL.out.row
        have HO := hid hO
        have HH := hid hH
        have HLn : Hid (hs.length = k) := by show _ = _; rw [hH.1, List.length_map]; exact HX.out.1
        obtain ⟨pr, cr, rfl⟩ := own_formN hO HLn.out
        have hcb : (convert 57 9 (.slice (some ⟨W1.heap.size, 0, none⟩) 1 1)).run Tryz.prog (W1.alloc (.cells #[.int .u8 (97 + (h : Int))] 5)) = .ok (.string ⟨#[UInt8.ofNat (97 + h)]⟩) (W1.alloc (.cells #[.int .u8 (97 + (h : Int))] 5)) := conv_one (byteH h hh7)
        have HA := hid ((Below.refl W1.heap.size W1).alloc (Nat.le_refl _) (.cells #[.int .u8 (97 + (h : Int))] 5))
        generalize hc9 : UInt8.ofNat (97 + h) = c9 at *
        have HC9 := hid hc9
        clear hc9 cH cT hbw hO hH hkH hkT
        rcases hhr with hh1 | ⟨hh1, hh0⟩ <;> rcases htr with ht1 | ⟨ht1, ht0⟩
        all_goals
          go_wp2_with (first
            | (go_at_call 18; refine (point_is (s := ⟨#[c9]⟩) (hs := (show 1 ≤ maxLen by decide)) (t := (t : Int)) (n := 100 * (h : Int) + (t : Int)) (p := pO (h, t)) (by rw [← HC9.out]; exact pt_pO)).mono ?_; rintro e w6 ⟨pk6, ck6, pv6, cv6, rfl, hp6, hb6⟩; have HP6 := hid hp6; have HB6 := hid (HA.out.trans (hb6.mono HA.out.size)); clear hb6 hp6 hcb)
            | (at_builtin; refine app_N (N := 72) (B := w5.heap.size) (ys := [⟨nLoad, .slice pk6 1 ck6, (t : Int), .slice pv6 1 cv6⟩]) elem34 ph_len (fun x hx => by simp at hx; subst hx; exact ph_cells rfl rfl) rfl _ _ rfl rfl (own_kp (T := fun _ => False) HO.out (Kp.of (HB6.out.alloc HB6.out.size _)) (fun _ _ => id)) rfl (ph1 (alloc_block _ _)) (bs72 (by have := HLn.out; omega) (by simp)) (by decide) (by have := HB.out.size; have := HB6.out.size; simp; omega) ?_; intro v7 w7 hown7 hg7; obtain ⟨p7, c7, rfl⟩ := own_formN (n := k + 1) hown7 (by rw [List.length_append, HLn.out]; rfl); have HO7 := hid hown7; have HG7 := hid hg7; clear hown7 hg7))
          have hbA7 : Below W1.heap.size W1 (w6.alloc (.cells #[.string nLoad, .slice pk6 1 ck6, .int .i64 (t : Int), .slice pv6 1 cv6] 34)) := HB6.out.alloc HB6.out.size _
          have hb67 : Below w6.heap.size w6 (w6.alloc (.cells #[.string nLoad, .slice pk6 1 ck6, .int .i64 (t : Int), .slice pv6 1 cv6] 34)) := (Below.refl _ _).alloc (Nat.le_refl _) _
          have hO6 := own_kp (T := fun _ => False) HO.out (Kp.of hbA7) (fun _ _ => id)
          have hK7 : Kp (fun k' => (Value.slice pr k cr).ownBlock = some k') (w6.alloc (.cells #[.string nLoad, .slice pk6 1 ck6, .int .i64 (t : Int), .slice pv6 1 cv6] 34)) w7 := Kp.grown HG7.out (fun k' e => e)
          obtain ⟨pkx, ckx, pvx, cvx, hux, hrx, hry⟩ := HP6.out
          have hux' : (Value.agg #[.string nLoad, .slice pk6 1 ck6, .int .i64 (t : Int), .slice pv6 1 cv6]) = .agg #[.string nLoad, .slice pkx 1 ckx, .int .i64 (t : Int), .slice pvx 1 cvx] := hux
          injection hux' with hux'
          simp only [Array.mk.injEq, List.cons.injEq, Value.slice.injEq, true_and, and_true] at hux'
          obtain ⟨⟨rfl, rfl⟩, rfl, rfl⟩ := hux'
          have hPL7 : PL w5.heap.size w7 (.slice p7 (k + 1) c7) ((X ++ [(h, t)]).map pO) := by
            refine ⟨_, HO7.out, ?_⟩
            rw [snocX]
            exact headsL_snoc ((HH.out.on hbA7).kp hK7 (fun k' hk' => own_off34 hO6 hk')) ⟨rfl, rfl, row_kp (row_kp (T := fun _ => False) hrx (Kp.of hb67) (fun _ _ => id)) hK7 (fun k' hk' => own_off34 hO6 hk'), row_kp (row_kp (T := fun _ => False) hry (Kp.of hb67) (fun _ _ => id)) hK7 (fun k' hk' => own_off34 hO6 hk')⟩
          have hbF : Below w5.heap.size w5 w7 := (HB.out.trans (hbA7.mono HB.out.size)).trans (hK7.below (by have := HB.out.size; have := hbA7.size; omega) (fun k' hk' => (own_at hO6 hk').1))
          exact ⟨⟨k + 1, X ++ [(h, t)], by omega, by go_num, ⟨by rw [List.length_append, HX.out.1]; rfl, HOk.out⟩, hPL7, hbF⟩, by simp [intOf]; omega⟩
      · have hkn : k = n := by omega
        subst hkn
        obtain ⟨pv, cv, rfl, hcv, hget⟩ := HPL.out.get (by rw [List.length_map, HX.out.1]; omega)
        clear hget hlt
        rw [List.length_map, HX.out.1] at hcv HPL ⊢
        have HA6 := hid (HA5.out.on HB.out)
        have HB6 := hid (HB5.out.on HB.out)
        go_upto_if 102 with fail
        go_cut [2] from 101 to 105 (fun cv wx => ∃ r : Nat, r ≤ 9223372036854775807 ∧ cv = .int .i64 (r : Int) ∧ wx = W1)
        case first =>
          have hat0 := HAt.out.1
          have hat1 := HAt.out.2
          by_cases hneg : at' < 0
          · go_wp2
            go_meet
            exact ⟨(-(at' + 1)).toNat, by omega, by congr 1; omega, rfl⟩
          · go_wp2
            go_meet
            exact ⟨at'.toNat, by omega, by congr 1; omega, rfl⟩
        case rest =>
          obtain ⟨r, hr, hcr, hwc⟩ := hcut
          subst hcr
          replace hwc := hwc.symm
          subst hwc
          go_wp2_with fail
          go_loopw [17] (fun i wr => ∃ (j : Nat) (ya yb : Lx), j ≤ k ∧ i = .int .i64 j ∧ Hid (Lv w wr a [scLoad] 1000 ya (fstP ((X.take j).map pO))) ∧ Hid (Lv w wr b [scLoad] 1000 yb (fstP (((rotX X r).take j).map pO))) ∧ Hid (∀ q, Tl a ya q → ¬ Tl b yb q) ∧ Hid (PL w5.heap.size wr (.slice pv k cv) (X.map pO))) (fun i _ => k - (intOf i).toNat)
          case atStart => exact ⟨0, xa, xb, by omega, rfl, HA6.out, HB6.out, HAp.out, HPL.out⟩
          case round =>
            obtain ⟨j, ya, yb, hj, rfl, HAj, HBj, HApj, HPLj⟩ := hrel
            obtain ⟨W2, hW2⟩ : ∃ W, W = wr := ⟨wr, rfl⟩
            subst hW2
            by_cases hjl : j < k
            · have hjX : j < X.length := by rw [HX.out.1]; exact hjl
              have hk0 : 0 < k := by omega
              obtain ⟨x, hx⟩ : ∃ x, X[j]? = some x := ⟨X[j], List.getElem?_eq_getElem hjX⟩
              obtain ⟨i2, hi2⟩ : ∃ i2, i2 = (j + r % k) % k := ⟨_, rfl⟩
              have hi2k : i2 < k := by rw [hi2]; exact Nat.mod_lt _ hk0
              have hi2X : i2 < X.length := by rw [HX.out.1]; exact hi2k
              obtain ⟨x2, hx2⟩ : ∃ x, X[i2]? = some x := ⟨X[i2], List.getElem?_eq_getElem hi2X⟩
              have hrot : (rotX X r)[j]? = some x2 := by
                rw [rot_get hjX, HX.out.1, ← Nat.add_mod_mod, ← hi2, getElem!_pos X i2 hi2X]
                rw [List.getElem?_eq_getElem hi2X] at hx2
                exact hx2
              have HS1 := hid (fst_take hx)
              have HS2 := hid (fst_take hrot)
              have hx50 := (HX.out.2 x (List.mem_of_getElem? hx)).2
              have hx250 := (HX.out.2 x2 (List.mem_of_getElem? hx2)).2
              have hf1 := fst_le (X := X) (k := j)
              have hf2 := fst_le (X := rotX X r) (k := j)
              obtain ⟨n1, z1, l1⟩ := wr_pO (pts := fstP ((X.take j).map pO)) hx50 (by omega)
              obtain ⟨n2, z2, l2⟩ := wr_pO (pts := fstP (((rotX X r).take j).map pO)) hx250 (by omega)
              have HN1 := hid n1
              have HZ1 := hid z1
              have HL1 := hid l1
              have HN2 := hid n2
              have HZ2 := hid z2
              have HL2 := hid l2
              have HF1 : Hid ((fstP ((X.take j).map pO)).length ≤ 254) := by show _ ≤ _; omega
              have HF2 : Hid ((fstP (((rotX X r).take j).map pO)).length ≤ 254) := by show _ ≤ _; omega
              obtain ⟨p1, c1, he1, -, hg1⟩ := HPLj.out.get (by rw [List.length_map, HX.out.1]; omega)
              rw [List.length_map, HX.out.1] at he1
              cases he1
              obtain ⟨g, o, pk, ck, pv', cv', rfl, hpc, hpt⟩ := hg1 j (pO x) (by rw [List.getElem?_map, hx]; rfl)
              have HPt := hid hpt
              obtain ⟨d0, d1, d2, d3, -, -⟩ := hpc
              have HQ2 : Hid ((X.map pO)[i2]? = some (pO x2)) := by show _ = _; rw [List.getElem?_map, hx2]; rfl
              have hrm := tmod_nat r k
              have hrm2 : ((j : Int) + ((r % k : Nat) : Int)).tmod (k : Int) = (i2 : Int) := by
                have := tmod_nat (j + r % k) k
                rw [hi2, ← this]; rfl
              have hk0' : ¬ (k : Int) = 0 := by omega
              have hrk : r % k < k := Nat.mod_lt _ hk0
              generalize hrr : r % k = rr at *
              clear hx hx2 hrot n1 z1 l1 n2 z2 l2 hpt hg1 hjX hi2X hf1 hf2 hi2 hrr
              go_upto_region 24 with (go_at_call 11; refine (write_v HAj.out (HAj.out.pt HPt.out) check_load HF1.out (rng_pO x) HN1.out HZ1.out HL1.out).mono ?_; rintro e w6 ⟨rfl, ya6, hl6, hk6, ht6⟩; have HA6' := hid hl6; have HB6' := hid (HBj.out.other HAj.out hk6 (fun q h1 h2 => HApj.out q h2 h1)); have HPL6 := hid (HPLj.out.leaf HAj.out hk6); have HAp6 : Hid (∀ q, Tl a ya6 q → ¬ Tl b yb q) := ap_step HApj.out HBj.out.T_lt ht6; clear hl6 hk6 ht6 d0 d1 d2 d3)
              obtain ⟨p2, c2, he2, -, hg2⟩ := HPL6.out.get (by rw [List.length_map, HX.out.1]; omega)
              rw [List.length_map, HX.out.1] at he2
              cases he2
              obtain ⟨g2, o2, pk2, ck2, pv2, cv2, hp2, hpc2, hpt2⟩ := hg2 i2 (pO x2) HQ2.out
              cases hp2
              have HPt2 := hid hpt2
              obtain ⟨d0, d1, d2, d3, -, -⟩ := hpc2
              clear hg2 hpt2
              go_wp2_with (go_at_call 11; refine (write_v HB6'.out (HB6'.out.pt HPt2.out) check_load HF2.out (rng_pO x2) HN2.out HZ2.out HL2.out).mono ?_; rintro e w7 ⟨rfl, yb7, hl7, hk7, ht7⟩; have HB7 := hid hl7; have HA7 := hid (HA6'.out.other HB6'.out hk7 (fun q h1 h2 => HAp6.out q h1 h2)); have HPL7 := hid (HPL6.out.leaf HB6'.out hk7); have HAp7 : Hid (∀ q, Tl a ya6 q → ¬ Tl b yb7 q) := (fun q h1 h2 => ap_step (fun q h3 h4 => HAp6.out q h4 h3) HA6'.out.T_lt ht7 q h2 h1); clear hl7 hk7 ht7 d0 d1 d2 d3)
              exact ⟨⟨j + 1, ya6, yb7, by omega, by go_num, (by show Lv _ _ _ _ _ _ _; rw [HS1.out]; exact HA7.out), (by show Lv _ _ _ _ _ _ _; rw [HS2.out]; exact HB7.out), HAp7.out, HPL7.out⟩, by simp [intOf]; omega⟩
            · have hjk : j = k := by omega
              subst hjk
              have hXl := HX.out.1
              have hOk := HX.out.2
              have hta : X.take j = X := List.take_of_length_le (by omega)
              have htr : (rotX X r).take j = rotX X r := List.take_of_length_le (by rw [rot_len]; omega)
              rw [hta] at HAj
              rw [htr] at HBj
              have hla : (fstP (X.map pO)).length ≤ 100 := Nat.le_trans (fstP_len _) (by rw [List.length_map]; omega)
              have hlb : (fstP ((rotX X r).map pO)).length ≤ 100 := Nat.le_trans (fstP_len _) (by rw [List.length_map, rot_len]; omega)
              have HRl := hid (scan_100 hOk)
              have HRr := hid (rot_scan hOk r)
              have HSa := hid (fit_sz check_load (fst_fit hOk))
              have HSb := hid (fit_sz check_load (fst_fit (ok_rot hOk r)))
              have HKy := hid (pO_kyd hOk)
              have HOk := hid hOk
              generalize hPA : fstP (X.map pO) = PA at *
              generalize hPB : fstP ((rotX X r).map pO) = PB at *
              have HPA := hid hPA
              clear hPA hPB hta htr hOk hjl
              generalize hRA : scR [scLoad] PA nLoad 0 100 = RA at *
              have HRA := hid hRA
              clear hRA
              go_upto_region 26 with (go_at_call 13; refine (scan_g (nm := nLoad) (a := 0) (z := 100) HAj.out check_load (by omega) HSa.out scE_load scC_load HRA.out).mono ?_; rintro e w8 ⟨pc8, nc8, cc8, pr8, cr8, rfl, ht8, hb8⟩; have HT8 := hid ht8; have HB8 := hid hb8; clear ht8 hb8)
              rw [HRl.out] at HT8 ⊢
              generalize hlm : PA.length = m at *
              have HLm := hid hlm
              clear hlm
              have hb9 := HB8.out.alloc HB8.out.size (.cells #[.slice pc8 nc8 cc8, .slice pr8 m cr8] 44)
              have K9 := hid (alloc_block w8 (.cells #[.slice pc8 nc8 cc8, .slice pr8 m cr8] 44))
              have HT9 := hid (HT8.out.on ((Below.refl _ _).alloc (Nat.le_refl _) (.cells #[.slice pc8 nc8 cc8, .slice pr8 m cr8] 44)))
              have HA9 := hid (HAj.out.on hb9)
              have HB9 := hid (HBj.out.on hb9)
              have HPL9 := hid (HPLj.out.on hb9)
              clear hb9 HT8 HB8 HPLj HAj HBj
              generalize w8.heap.size = BX at *
              generalize (w8.alloc (.cells #[.slice pc8 nc8 cc8, .slice pr8 m cr8] 44)) = W9 at *
              go_wp2_with fail
              go_loopw [20] (fun i wr => ∃ (i3 : Nat), i3 ≤ j ∧ i = .int .i64 i3 ∧ Hid (Below W9.heap.size W9 wr)) (fun i _ => j - (intOf i).toNat)
              case atStart => exact ⟨0, by omega, rfl, Below.refl _ _⟩
              case round =>
                obtain ⟨i3, hi3, rfl, HBi⟩ := hrel
                obtain ⟨W10, hW10⟩ : ∃ W, W = wr := ⟨wr, rfl⟩
                subst hW10
                by_cases hil : i3 < j
                · have hiX : i3 < X.length := by omega
                  obtain ⟨x, hx⟩ : ∃ x, X[i3]? = some x := ⟨X[i3], List.getElem?_eq_getElem hiX⟩
                  have hm := List.mem_of_getElem? hx
                  obtain ⟨n1, z1, -⟩ := wr_pO (pts := PA) (x := x) (HOk.out x hm).2 (by rw [HLm.out]; omega)
                  have hhas : hasP PA (pO x) = true := by rw [← HPA.out]; exact fstP_has HKy.out (List.mem_map.2 ⟨x, hm, rfl⟩)
                  rw [hhas] at n1
                  have HN1 := hid n1
                  have HZ1 := hid z1
                  obtain ⟨p1, c1, he1, -, hg1⟩ := (HPL9.out.on HBi.out).get (by rw [List.length_map, HX.out.1]; omega)
                  rw [List.length_map, HX.out.1] at he1
                  cases he1
                  obtain ⟨g, o, pk, ck, pv', cv', rfl, hpc, hpt⟩ := hg1 i3 (pO x) (by rw [List.getElem?_map, hx]; rfl)
                  have HPt := hid hpt
                  have HA10 := hid (HA9.out.on HBi.out)
                  obtain ⟨d0, d1, d2, d3, -, -⟩ := hpc
                  clear hx n1 z1 hpt hg1 hhas hm hiX
                  go_wp2_with (go_at_call 11; refine (write_k HA10.out HPt.out.at check_load (by rw [HLm.out]; omega) (rng_pO x) HN1.out HZ1.out).mono ?_; rintro e w11 ⟨rfl, hb11⟩; have HB11 := hid (HBi.out.trans (hb11.mono HBi.out.size)); clear hb11 d0 d1 d2 d3)
                  exact ⟨⟨i3 + 1, by omega, by go_num, HB11.out⟩, by simp [intOf]; omega⟩
                · have HA10 := hid (HA9.out.on HBi.out)
                  have HB10 := hid (HB9.out.on HBi.out)
                  have HT10 := hid (HT9.out.on HBi.out)
                  have K10 := hid (block_on K9.out HBi.out)
                  clear HA9 HB9 HT9 K9 HPL9
                  go_upto_region 33 with (go_at_call 13; refine (scan_g (nm := nLoad) (a := 0) (z := 100) HA10.out check_load (by rw [HLm.out]; omega) HSa.out scE_load scC_load HRA.out).mono ?_; rintro e w12 ⟨pc12, nc12, cc12, pr12, cr12, rfl, ht12, hb12⟩; have HT12 := hid ht12; have HB12 := hid hb12; clear ht12 hb12)
                  rw [HRl.out] at HT12 ⊢
                  have hb13 := HB12.out.alloc HB12.out.size (.cells #[.slice pc12 nc12 cc12, .slice pr12 m cr12] 44)
                  have K13 := hid (alloc_block w12 (.cells #[.slice pc12 nc12 cc12, .slice pr12 m cr12] 44))
                  have HT13 := hid (HT12.out.on ((Below.refl _ _).alloc (Nat.le_refl _) (.cells #[.slice pc12 nc12 cc12, .slice pr12 m cr12] 44)))
                  have HA13 := hid (HA10.out.on hb13)
                  have HB13 := hid (HB10.out.on hb13)
                  have HT10' := hid (HT10.out.on hb13)
                  have K10' := hid (block_on K10.out hb13)
                  clear hb13 HT12 HB12 HA10 HB10 HT10 K10
                  generalize w12.heap.size = BY at *
                  generalize (w12.alloc (.cells #[.slice pc12 nc12 cc12, .slice pr12 m cr12] 44)) = W13 at *
                  go_upto_region 34 with (go_at_call 13; refine (scan_g (nm := nLoad) (a := 0) (z := 100) HB13.out check_load (by omega) HSb.out scE_load scC_load HRr.out).mono ?_; rintro e w14 ⟨pc14, nc14, cc14, pr14, cr14, rfl, ht14, hb14⟩; have HT14 := hid ht14; have HB14 := hid hb14; clear ht14 hb14)
                  rw [HRl.out] at HT14 ⊢
                  have hb15 := HB14.out.alloc HB14.out.size (.cells #[.slice pc14 nc14 cc14, .slice pr14 m cr14] 44)
                  have K15 := hid (alloc_block w14 (.cells #[.slice pc14 nc14 cc14, .slice pr14 m cr14] 44))
                  have HT15 := hid (HT14.out.on ((Below.refl _ _).alloc (Nat.le_refl _) (.cells #[.slice pc14 nc14 cc14, .slice pr14 m cr14] 44)))
                  have HA15 := hid (HA13.out.on hb15)
                  have HT105 := hid (HT10'.out.on hb15)
                  have K105 := hid (block_on K10'.out hb15)
                  have HT135 := hid (HT13.out.on hb15)
                  have K135 := hid (block_on K13.out hb15)
                  clear hb15 HT14 HB14 HA13 HB13 HT10' K10' HT13 K13
                  generalize w14.heap.size = BZ at *
                  generalize (w14.alloc (.cells #[.slice pc14 nc14 cc14, .slice pr14 m cr14] 44)) = W15 at *
                  have k1 := block_cell K105.out
                  have k2 := block_cell K135.out
                  have M1 : Hid True := trivial
                  go_upto_region 36 with (first
                    | (have FIRST := M1; go_at_call 15; refine (same_g HT105.out HT135.out (decide_eq_true ⟨rfl, rfl⟩)).mono ?_; rintro e w16 ⟨rfl, hb16⟩; have HA16 := hid (HA15.out.on hb16); have HT106 := hid (HT105.out.on hb16); have K106 := hid (block_on K105.out hb16); have HT156 := hid (HT15.out.on hb16); have k3 := block_cell K106.out; have k4 := block_cell (block_on K15.out hb16); have M2 : Hid True := trivial; clear FIRST M1 hb16 k1 k2)
                    | (have FIRST := M2; go_at_call 15; refine (same_g HT106.out HT156.out (decide_eq_true ⟨rfl, rfl⟩)).mono ?_; rintro e w17 ⟨rfl, hb17⟩; have HA17 := hid (HA16.out.on hb17); have K107 := hid (block_on K106.out hb17); clear FIRST M2 hb17 k3 k4))
                  have k8 := block_cell K107.out
                  have c1 := k8 1
                  clear k8
                  refine wp_region_quiet_below (by kernel_rfl) (by kernel_rfl) ?_
                  have q1 : ∀ (d : Nat) (os : Array Obj), (grow (redrawn w17 d) os).cell? ⟨BX, 1, none⟩ = some (.slice pr8 m cr8) := fun d os => cell_regrown c1 d os
                  have HCa : Hid (∀ d os, Calls Tryz.prog 16 #[dp a] (grow (redrawn w17 d) os) fun e w' => e = .returned (.int .i64 (m : Int)) ∧ Below (grow (redrawn w17 d) os).heap.size (grow (redrawn w17 d) os) w') := fun d os => (points_v (HA17.out.on (below_regrown w17 d os)) HLm.out).mono (by rintro e w' ⟨rfl, rfl⟩; exact ⟨rfl, Below.refl _ _⟩)
                  repeat (go_big_quiet_step (first | (go_at_call 16; exact Calls.regrown_of (HCa.out _ _))))
                  refine wpQuiet_nil ?_
                  intro _ hw'
                  obtain ⟨⟨dr, osr⟩, hw''⟩ := hw'
                  subst hw''
                  have hb9 := (HA17.out.on (below_regrown w17 dr osr)).bel
                  go_wp2
                  go_ret
                  exact ⟨rfl, hb9⟩
end Go.Proofs.YtlbjbkhcnafhcaaGreat
namespace Go.Proofs.YtlbjbkhcnafhcaaGreat
open Go.ChangeShapes Go.WideShapes Go.ChangeAt Go.WideMaps Go.WideElems Go.RowKit Go.Joins

section
variable {H : Type} {enc : TypeId × Value → H} {W : World} {base : Nat} {spare : Nat → Bool} {held : Bool}
set_option maxRecDepth 100000 in
theorem open_nums {r : Reach} {b0 : Nat} {v : Value} {d0 : DataW H} {p : List MemPlace} (hv : Value.okWide Tryz.prog W r b0 54 v) (h : DataW.Trod enc Tryz.prog W base spare held 54 v d0 p) : ∃ l, IntA W v l := by
  obtain ⟨a0, len, cap0, rfl⟩ := okWide_slice Tryz.underlying54 hv
  obtain ⟨fuel, hfu⟩ := h
  rcases Deep.open_slice Tryz.underlying54 hfu with ⟨hcs, _⟩ | ⟨a, len, cap, m, n, D, Pl, hcs, hba, hl, hm, hmm, hx, hall⟩
  · cases hcs
    exact ⟨[], none, 0, rfl, Nat.le_refl _, Nat.zero_le _, (fun x hx => by cases hx), fun j x hj => by simp at hj⟩
  · cases hcs
    have hlm : len ≤ m := by rw [hmm]; split <;> omega
    obtain ⟨X, hX⟩ := Deep.choose_lt (α := Int) (n := len) (p := fun i x => W.cells? base (a.add (i * 1)) 1 = some [.int .i64 x] ∧ Ok64 x) (fun i hi => by
      obtain ⟨cs', h1, h2⟩ := hall i (by omega)
      rw [cells3] at h1
      obtain ⟨s, e0, e0', w0⟩ := DataW.trod_int Tryz.underlying3 h2
      exact ⟨s, by rw [h1, e0], ok64_of w0⟩)
    have hlen : ((List.range len).map X).length = len := by simp
    refine ⟨(List.range len).map X, some a, cap0, by rw [hlen], by rw [hlen]; exact hl, by rw [hlen]; omega, fun x hx => ?_, fun j x hj => ?_⟩
    · obtain ⟨i, hi, rfl⟩ := List.mem_map.1 hx
      exact (hX i (List.mem_range.1 hi)).2
    have hj' : j < len := by have := (List.getElem?_eq_some_iff.1 hj).1; rwa [hlen] at this
    have hxj : X j = x := by simpa [List.getElem?_map, List.getElem?_range hj'] using hj
    subst hxj
    obtain ⟨b, off, spot⟩ := a
    have hsp : spot = none := by
      have h1 := (World.cells?_some (hX 0 (by omega)).1).2.2 0 (by decide)
      rw [Nat.zero_mul] at h1
      simpa [Addr.add] using World.cell?_spot h1
    subst hsp
    have h1 := (World.cells?_some (hX j hj').1).2.2 0 (by decide)
    rw [Addr.add_lit, Addr.add_lit, Nat.mul_one, Nat.add_zero] at h1
    exact ⟨b, off, rfl, h1⟩
end
end Go.Proofs.YtlbjbkhcnafhcaaGreat
