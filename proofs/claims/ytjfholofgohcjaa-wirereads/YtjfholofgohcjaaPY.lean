/-
  What the reference's body returns, for every table that may be.
  What the reference's Encode returns, for every table.
-/
import Derived.Test.YtjfholofgohcjaaPH
import Derived.Test.YtjfholofgohcjaaPK
import Derived.Test.YtjfholofgohcjaaPX
namespace Go.Proofs.Ytjfholofgohcjaa
open Go.RowKit Go.Sort Go.Shelf

theorem own_one {B : Nat} {w : World} {x : UInt8} {E : Int} (h : E = (x.toNat : Int)) (hB : B ≤ w.heap.size) : OwnB B (w.alloc (.cells #[.int .u8 E] 5)) (.slice (some ⟨w.heap.size, 0, none⟩) 1 1) [x] := by
  subst h
  exact ⟨rfl, .inr ⟨w.heap.size, 1, _, rfl, hB, alloc_block w _, Nat.le_refl _, by decide, rfl, rfl⟩⟩
theorem big1 (n : Int) : bigB n 1 = [dig n 0] := rfl
abbrev BN (bx : Nat) (cv rv : Value) (b o : Nat) (nm : ByteArray) (w : World) : Prop := w.heap[bx]? = some (.cells #[cv, rv] 25) ∧ w.cell? ⟨bx, 0, none⟩ = some cv ∧ w.cell? ⟨b, o, none⟩ = some (.string nm)
theorem nBox {w : World} {bx b o : Nat} {cv rv : Value} {nm : ByteArray} (h : w.heap[bx]? = some (.cells #[cv, rv] 25)) (h2 : w.cell? ⟨b, o, none⟩ = some (.string nm)) : BN bx cv rv b o nm w := ⟨h, (block_cell h 0).trans rfl, h2⟩
theorem nBoxD {w : World} {bx b o : Nat} {cv rv : Value} {nm : ByteArray} (h : BN bx cv rv b o nm w) : BN bx cv rv b o nm w.drew := h
theorem nBoxA {w : World} {bx b o : Nat} {cv rv : Value} {nm : ByteArray} (h : BN bx cv rv b o nm w) (x : Obj) : BN bx cv rv b o nm (w.alloc x) := nBox (blk_up' h.1 x) (Lib.cell?_alloc_some _ h.2.2)
theorem nBoxW {w : World} {bx b o : Nat} {cv rv : Value} {nm : ByteArray} (h : BN bx cv rv b o nm w) (e : TypeId) (s : ByteArray) : BN bx cv rv b o nm (Lib.bytesWorld w e s) := nBox (block_on h.1 (below_bw w e s)) (cell_on h.2.2 (below_bw w e s))
theorem lowWA (w : World) (s : ByteArray) (o : Obj) : Below w.heap.size w ((Lib.bytesWorld w.drew 5 s).alloc o) :=
  ((Below.refl w.heap.size w).drew.trans (below_bw w.drew 5 s)).alloc (below_bw w.drew 5 s).size o
theorem lowA (w : World) (o : Obj) : Below w.heap.size w (w.drew.alloc o) := (Below.refl w.heap.size w).drew.alloc (Nat.le_refl _) o
theorem lowAW (w : World) (s : ByteArray) (o : Obj) : Below w.heap.size w (Lib.bytesWorld (w.drew.alloc o) 5 s) :=
  (lowA w o).trans ((below_bw (w.drew.alloc o) 5 s).mono (lowA w o).size)
set_option maxRecDepth 100000 in
set_option maxHeartbeats 4000000 in
theorem rbody_any {c r : Value} {cs : List Cl} {rs : List Rw} {w : World} (hT : TabAt w (.agg #[c, r]) cs rs) (hs : ∀ q ∈ rs, ∀ x ∈ q, validL x = true) (hn : ∀ q ∈ cs, q.nm.size ≤ 64) (hl : (bodyB cs rs).length + 1000 ≤ 140737488355328) :
    Calls Try.prog 71 #[.agg #[c, r]] w fun e w' => ∃ v', e = .returned v' ∧ OwnB w.heap.size w' v' (bodyB cs rs) ∧ Fr w.heap.size w w' := by
  obtain ⟨c', r', he, hc, hs', hr, hh⟩ := hT
  simp only [Value.agg.injEq, Array.mk.injEq, List.cons.injEq, and_true] at he
  obtain ⟨rfl, rfl⟩ := he
  obtain ⟨p, cap, rfl, hcap, hmax, hx⟩ := hc
  obtain ⟨p', cap', rfl, hcap', hmax', hx'⟩ := hr
  unfold maxLen at hmax hmax'
  generalize hbody : bodyB cs rs = bd at *
  have HE0 : Hid (bigB (cs.length : Int) 1 ++ (colsBy cs ++ (bigB (rs.length : Int) 2 ++ rowsB rs)) = bd) := hbody
  have HL := hid hl
  have HS := hid hs
  have HNm := hid hn
  have HX := hid hx
  have HX' := hid hx'
  have HH := hid hh
  have hrl : hs'.length = rs.length := hh.1
  clear hl hs hn hx hx' hh hbody
  rw [← hrl] at HE0
  generalize hcl : cs.length = n at *
  generalize hsl : hs'.length = m at *
  have HCL := hid hcl
  have HSL := hid hsl
  have HRL := hid hrl
  clear hcl hsl hrl
  have KB := hid (alloc_block w (.cells #[.slice p n cap, .slice p' m cap'] 25))
  have HF0 := hid ((Fr.refl w.heap.size w).alloc (Nat.le_refl _) (.cells #[.slice p n cap, .slice p' m cap'] 25))
  go_enter Try.func71, Try.ntmps71
  go_wp2_with fail
  have hO1 := own_one (B := w.heap.size) (w := w.alloc (.cells #[.slice p n cap, .slice p' m cap'] 25)) (wrap_dig (n : Int)) (by rw [World.size_alloc]; omega)
  rw [World.size_alloc] at hO1
  have HO1 := hid hO1
  clear hO1
  have HF1 := hid (HF0.out.alloc (by rw [World.size_alloc]; omega) (.cells #[.int .u8 (IntKind.u8.wrap (n : Int))] 5))
  have KB1 := hid (blk_up' KB.out (.cells #[.int .u8 (IntKind.u8.wrap (n : Int))] 5))
  go_loopw [3, 4] (fun b i wr => ∃ (k : Nat) (ys : List UInt8), k ≤ n ∧ i = .int .i64 k ∧ Hid (OwnB w.heap.size wr b ys) ∧ Hid (ys ++ (colsBy (cs.drop k) ++ (bigB (m : Int) 2 ++ rowsB rs)) = bd) ∧ Hid (Fr w.heap.size w wr) ∧ Hid (wr.heap[w.heap.size]? = some (.cells #[.slice p n cap, .slice p' m cap'] 25))) (fun _ i _ => n - (intOf i).toNat)
  case atStart => exact ⟨0, _, by omega, rfl, HO1.out, HE0.out, HF1.out, KB1.out⟩
  case round =>
    obtain ⟨k, ys, hk, rfl, HO, HE, HF, HK⟩ := hrel
    by_cases hlt : k < n
    · have hkc : k < cs.length := by rw [HCL.out]; exact hlt
      obtain ⟨b, o, rfl, -, hj⟩ := HX.out (by intro e; subst e; simp at hkc)
      have HCELL := hid (fun (x : World) (hx : Below w.heap.size w x) => col_cells ((hj k _ (get!_some hkc)).on hx))
      have HNk := hid (HNm.out _ (mem_get! hkc))
      have HD := hid (colsBy_drop hkc)
      have HSMc := hid cs[k]!.small
      generalize cs[k]! = cc at HCELL HNk HD HSMc
      clear hj
      have hBr : w.heap.size ≤ wr.heap.size := HF.out.size
      have HLy := hid (len_of HE.out HL.out)
      have hcv : ∀ w : World, (convert 9 41 (.string cc.nm)).run Try.prog w = .ok (.slice (some ⟨w.heap.size, 0, none⟩) cc.nm.size (grownCap w cc.nm.size 0 5)) (Lib.bytesWorld w 5 cc.nm) := fun w => Lib.run_convert_string_bytes w 9 41 5 cc.nm Try.underlying9 Try.underlying41 Try.underlying5
      have HEs := hid (wrap_dig (cc.nm.size : Int))
      have HEk := hid (wrap_dig cc.kd)
      have kb := block_cell HK.out
      go_wp2_with fail
      clear kb
      have hS0 := nBox HK.out (HCELL.out _ HF.out.low).1
      have HOD : Hid (OwnB w.heap.size wr.drew u3 ys) := HO.out
      have HLT : Hid (∀ g, u3.ownBlock = some g → g < wr.heap.size) := fun g hg => (World.ownsRow.lt HO.out g hg).2
      have HS3 : Hid (∀ x, Fr w.heap.size wr x → BN w.heap.size (.slice (some ⟨b, o, none⟩) n cap) (.slice p' m cap') b (o + k * 2) cc.nm x) := fun x hx => nBox (hx.k5 _ _ _ _ HK.out (by decide)) (HCELL.out _ (HF.out.trans hx).low).1
      refine wp_region_noPanic ?_
      go_region_held_law (BN w.heap.size (.slice (some ⟨b, o, none⟩) n cap) (.slice p' m cap') b (o + k * 2) cc.nm) (((repeat (first | (with_reducible refine nBoxD ?_) | (with_reducible refine nBoxA ?_ _) | (with_reducible refine nBoxW ?_ _ _))); (with_reducible assumption)))
        (first
          | (have CHK : BN w.heap.size (.slice (some ⟨b, o, none⟩) n cap) (.slice p' m cap') b (o + k * 2) cc.nm ((Lib.bytesWorld wr.drew 5 cc.nm).alloc (.cells #[.int .u8 (IntKind.u8.wrap (cc.nm.size : Int))] 5)) := (by with_reducible assumption); clear CHK; have FIRST := HO; refine step_appG rfl (.tmp 21) (.tmp 30) rfl (by simp [Act.eval]; try rfl) (by simp [Act.eval]; try rfl) ((HOD.out.on (below_bw wr.drew 5 cc.nm)).alloc _) (bat_one (w := Lib.bytesWorld wr.drew 5 cc.nm) (x := dig (cc.nm.size : Int) 0) HEs.out) (by simp) (by have := HLy.out; simp; omega) (Nat.le_trans hBr (lowWA wr cc.nm _).size) ?_; intro v3 w3 hown3 hf3 hg3; have HO3 := hid hown3; have HY := hid (bat_grown ((bw_bat wr.drew cc.nm HSMc.out).on ((Below.refl _ _).alloc (Nat.le_refl _) _)) hg3 (by rw [World.size_alloc, Lib.bytesWorld_size]; omega) (fun e => absurd (HLT.out _ e.symm) (Nat.lt_irrefl _))); have F3 := hid ((Fr.of (lowWA wr cc.nm _) hBr).trans hf3); have hS3 := HS3.out _ F3.out; clear hown3 hf3 hg3 FIRST HO hS0)
          | (have FIRST := HO; refine step_appG rfl (.tmp 21) (.tmp 30) rfl (by simp [Act.eval]; try rfl) (by simp [Act.eval]; try rfl) (HOD.out.alloc _) (bat_one (w := wr.drew) (x := dig (cc.nm.size : Int) 0) HEs.out) (by simp) (by have := HLy.out; simp; omega) (Nat.le_trans hBr (lowA wr _).size) ?_; intro v3 w3 hown3 hf3 hg3; have HO3 := hid hown3; have F3 := hid ((Fr.of (lowA wr _) hBr).trans hf3); have hS3 := HS3.out _ F3.out; clear hown3 hf3 hg3 FIRST HO hS0)
          | (have FIRST := HO; refine step_appG rfl (.tmp 21) (.tmp 30) rfl (by simp [Act.eval]; try rfl) (by simp [Act.eval]; try rfl) ((HOD.out.alloc _).on (below_bw _ 5 cc.nm)) ((bat_one (w := wr.drew) (x := dig (cc.nm.size : Int) 0) HEs.out).on (below_bw _ 5 cc.nm)) (by simp) (by have := HLy.out; simp; omega) (Nat.le_trans hBr (lowAW wr cc.nm _).size) ?_; intro v3 w3 hown3 hf3 hg3; have HO3 := hid hown3; have HY := hid (bat_grown (bw_bat _ cc.nm HSMc.out) hg3 (by rw [Lib.bytesWorld_size]; omega) (fun e => by have := HLT.out _ e.symm; simp at this; omega)); have F3 := hid ((Fr.of (lowAW wr cc.nm _) hBr).trans hf3); have hS3 := HS3.out _ F3.out; clear hown3 hf3 hg3 FIRST HO hS0)
          | (have FIRST := HO3; refine step_appF rfl (.tmp 31) (.tmp 38) rfl (by simp [Act.eval]; try rfl) (by simp [Act.eval]; try rfl) (HO3.out.on (below_bw w3 5 cc.nm)) (bw_bat w3 cc.nm HSMc.out) (by have := HLy.out; have := HNk.out; rw [bytes_len, List.length_append, List.length_singleton]; omega) (Nat.le_trans (Nat.le_trans hBr F3.out.size) (below_bw w3 5 cc.nm).size) ?_; intro v4 w4 hown4 hf4; have HO4 := hid hown4; have F4 := hid ((F3.out.trans (Fr.of (below_bw w3 5 cc.nm) (Nat.le_trans hBr F3.out.size))).trans hf4); have hS4 := HS3.out _ F4.out; clear hown4 hf4 FIRST HO3 hS3)
          | (have FIRST := HO3; have SECOND := HY; refine step_appF rfl (.tmp 31) (.tmp 38) rfl (by simp [Act.eval]; try rfl) (by simp [Act.eval]; try rfl) HO3.out HY.out (by have := HLy.out; have := HNk.out; rw [bytes_len, List.length_append, List.length_singleton]; omega) (Nat.le_trans hBr F3.out.size) ?_; intro v4 w4 hown4 hf4; have HO4 := hid hown4; have F4 := hid (F3.out.trans hf4); have hS4 := HS3.out _ F4.out; clear hown4 hf4 FIRST SECOND HO3 hS3))
      all_goals
        refine NoPanic.normal ?_
        have kb4 := block_cell hS4.1
        have kd4 := (HCELL.out _ (HF.out.trans F4.out).low).2
        clear hS4
        go_wp2_with (at_builtin; refine appF_any rfl _ _ rfl rfl (HO4.out.alloc _) rfl (bat_one (w := w4) (x := dig cc.kd 0) HEk.out) (by have := HLy.out; have := HNk.out; simp only [List.length_append, List.length_singleton, bytes_len]; omega) (Nat.le_trans (Nat.le_trans hBr F4.out.size) (by rw [World.size_alloc]; omega)) ?_; intro v5 w5 hown5 hf5)
        go_roundw
        case rel =>
          have F5 := F4.out.trans ((Fr.of ((Below.refl w4.heap.size w4).alloc (Nat.le_refl _) _) (Nat.le_trans hBr F4.out.size)).trans hf5)
          exact ⟨k + 1, _, by omega, by go_num, hown5, by show _ = bd; rw [← HE.out, HD.out, big1, txtB, big1]; simp only [List.append_assoc], HF.out.trans F5, F5.k5 _ _ _ _ HK.out (by decide)⟩
        case measure => simp [intOf]; omega
    · have hks : k = n := by omega
      subst hks
      have he1 : ys ++ (bigB (m : Int) 2 ++ rowsB rs) = bd := by
        rw [← HE.out, List.drop_eq_nil_of_le (by rw [HCL.out]; exact Nat.le_refl _)]; rfl
      have HE1 := hid he1
      have HLy := hid (len_of he1 HL.out)
      have kb := block_cell HK.out
      have hBr : w.heap.size ≤ wr.heap.size := HF.out.size
      clear he1 HE KB KB1 HF0 HF1 HO1 HE0 HX HCL HNm
      go_wp2_with (first
        | (go_at_call 63; refine (rbig_any (width := 2) HO.out (by decide) hBr (by have := HLy.out; omega)).mono ?_; rintro e w2 ⟨v2, rfl, hown2, hf2⟩; have HO2 := hid hown2; have HF2 := hid (HF.out.trans hf2); have KB2 := hid (hf2.k5 _ _ _ _ HK.out (by decide)); clear hown2 hf2 kb))
      go_loopw [3, 5] (fun b i w3 => ∃ (j : Nat) (zs : List UInt8), j ≤ m ∧ i = .int .i64 j ∧ Hid (OwnB w.heap.size w3 b zs) ∧ Hid (zs ++ rowsB (rs.drop j) = bd) ∧ Hid (Fr w.heap.size w w3) ∧ Hid (w3.heap[w.heap.size]? = some (.cells #[.slice p k cap, .slice p' m cap'] 25))) (fun _ i _ => m - (intOf i).toNat)
      case atStart => exact ⟨0, _, by omega, rfl, HO2.out, by show _ = bd; rw [List.append_assoc]; exact HE1.out, HF2.out, KB2.out⟩
      case round =>
        obtain ⟨j, zs, hjm, rfl, HO3, HE3, HF3, HK3⟩ := hrel
        have kb := block_cell HK3.out
        by_cases hjlt : j < m
        · have hjs : j < hs'.length := by rw [HSL.out]; exact hjlt
          have hjr : j < rs.length := by rw [← HRL.out]; exact hjlt
          obtain ⟨b, o, rfl, -, hjj⟩ := HX'.out (by intro e; subst e; simp at hjs)
          have HHD := hid (fun (x : World) (hx : Below w.heap.size w x) => head_cell (fun j x' hjx => (hjj j x' hjx).on hx) (get!_some hjs))
          have HRow := hid (HH.out.2 j _ _ (get!_some hjs) (get!_some hjr))
          have HSk := hid (HS.out _ (mem_get! hjr))
          have HD := hid (rowsB_drop hjr)
          generalize hs'[j]! = hd0 at HHD HRow
          generalize rs[j]! = row at HRow HSk HD
          clear hjj
          have hrow := HRow.out
          obtain ⟨p2, cap2, rfl, hcap2, hmax2, hx2⟩ := hrow
          unfold maxLen at hmax2
          have HX2 := hid hx2
          clear hx2
          generalize hrl2 : List.length row = q at *
          have HRL2 := hid hrl2
          clear hrl2
          go_wp2_with fail
          go_loopw [3, 6] (fun b' i w4 => ∃ (i4 : Nat) (us : List UInt8), i4 ≤ q ∧ i = .int .i64 i4 ∧ Hid (OwnB w.heap.size w4 b' us) ∧ Hid (us ++ (rowBy (row.drop i4) ++ rowsB (rs.drop (j + 1))) = bd) ∧ Hid (Fr w.heap.size w w4) ∧ Hid (w4.heap[w.heap.size]? = some (.cells #[.slice p k cap, .slice (some ⟨b, o, none⟩) m cap'] 25))) (fun _ i _ => q - (intOf i).toNat)
          case atStart => exact ⟨0, _, by omega, rfl, HO3.out, by show _ = bd; rw [List.drop_zero, ← HD.out]; exact HE3.out, HF3.out, HK3.out⟩
          case round =>
            obtain ⟨i4, us, hk, rfl, HO4, HE4, HF4, HK4⟩ := hrel
            have kb4 := block_cell HK4.out
            have hd4 := HHD.out _ HF4.out.low
            by_cases hklt : i4 < q
            · have hkr : i4 < List.length row := by rw [HRL2.out]; exact hklt
              obtain ⟨b2, o2, rfl, -, hj2⟩ := HX2.out (by intro e; subst e; simp at hkr)
              obtain ⟨c0, c1, c2, c3, c4, c5, c6, c7, c8, c9, c10⟩ := val_cells ((hj2 i4 _ (get!_some hkr)).on HF4.out.low)
              have HSx := hid (HSk.out _ (mem_get! hkr))
              have HD4 := hid (rowBy_drop hkr)
              generalize row[i4]! = x at c0 c1 c2 c3 c4 c5 c6 c7 c8 c9 c10 HSx HD4
              clear hj2
              have hB4 : w.heap.size ≤ wr.heap.size := HF4.out.size
              have HLu := hid (len_of HE4.out HL.out)
              have HVL := hid (valB_len (valid_len HSx.out))
              go_wp2_with (first
                | (go_at_call 22; refine (rput_ok (bat_nil _) HSx.out (by simp) (valid_len HSx.out)).mono ?_; rintro e w5 ⟨v5, rfl, hown5, hb5⟩; rw [List.nil_append] at hown5; have HO5 := hid hown5; have HB5 := hid hb5; clear hown5 hb5)
                | (at_builtin; refine appF_any rfl _ _ rfl rfl (HO4.out.on HB5.out) rfl HO5.out.bat (by have := HLu.out; have := HVL.out; omega) (Nat.le_trans hB4 HB5.out.size) ?_; intro v6 w6 hown6 hf6))
              go_roundw
              case rel =>
                have F6 := (Fr.of HB5.out hB4).trans hf6
                exact ⟨i4 + 1, _, by omega, by go_num, hown6, by show _ = bd; rw [← HE4.out, HD4.out]; simp only [List.append_assoc], HF4.out.trans F6, F6.k5 _ _ _ _ HK4.out (by decide)⟩
              case measure => simp [intOf]; omega
            · have hkq : i4 = q := by omega
              subst hkq
              have he5 : us ++ rowsB (rs.drop (j + 1)) = bd := by
                rw [← HE4.out, show List.drop i4 row = [] from List.drop_eq_nil_of_le (by rw [HRL2.out]; exact Nat.le_refl _)]; rfl
              have HE5 := hid he5
              clear he5
              go_wp2_with fail
              go_roundw
              case rel => exact ⟨j + 1, us, by omega, by go_num, HO4.out, HE5.out, HF4.out, HK4.out⟩
              case measure => simp [intOf]; omega
        · have hjq : j = m := by omega
          subst hjq
          have he6 : zs = bd := by
            rw [← HE3.out, List.drop_eq_nil_of_le (by rw [← HRL.out]; exact Nat.le_refl _)]; simp [rowsB]
          have HE6 := hid he6
          clear he6
          go_wp2_with fail
          go_ret
          exact ⟨_, rfl, by rw [← HE6.out]; exact HO3.out, HF3.out⟩
end Go.Proofs.Ytjfholofgohcjaa
namespace Go.Proofs.Ytjfholofgohcjaa
open Go.RowKit Go.Sort

set_option maxRecDepth 100000 in
set_option maxHeartbeats 1000000 in
theorem renc_err {v : Value} {cs : List Cl} {rs : List Rw} {w : World} (hT : TabAt w v cs rs) (h : ¬ checkV cs rs = 0) :
    Calls Try.prog 27 #[v] w fun e w' => e = .returned (.tuple #[.slice none 0 0, .int .i64 (checkV cs rs)]) ∧ Below w.heap.size w w' := by
  have HT := hid hT
  obtain ⟨c, r, rfl, -, -⟩ := hT
  have HB := hid ((Below.refl w.heap.size w).alloc (Nat.le_refl _) (.cells #[c, r] 25))
  generalize hz : checkV cs rs = z at *
  have HZ := hid hz
  have hne : (z != 0) = true := by simpa using h
  clear hz h
  go_enter Try.func27, Try.ntmps27
  go_wp2_with (first
    | (go_at_call 15; refine (rcheck_any (HT.out.on HB.out)).mono ?_; rintro e w1 ⟨rfl, hb1⟩; rw [HZ.out]))
  exact bodyPost_ret (v := .tuple #[.slice none 0 0, .int .i64 z]) (by simp [results, Try.results27, go_sem]) rfl ⟨rfl, below_on HB.out hb1⟩
set_option maxRecDepth 100000 in
set_option maxHeartbeats 1000000 in
theorem renc_ok {v : Value} {cs : List Cl} {rs : List Rw} {w : World} (hT : TabAt w v cs rs) (h : checkV cs rs = 0) (hr : rs.length ≤ 4096) :
    Calls Try.prog 27 #[v] w fun e w' => ∃ v', e = .returned (.tuple #[v', .int .i64 0]) ∧ OwnB w.heap.size w' v' (encB cs rs) ∧ Below w.heap.size w w' := by
  have HT := hid hT
  have hlen := body_len h hr
  obtain ⟨hc1, hr1⟩ := check_parts h
  have HS : Hid (∀ q ∈ rs, ∀ x ∈ q, validL x = true) := fun q hq x hx => (row_parts (hr1 q hq)).2 x hx
  have HN : Hid (∀ q ∈ cs, q.nm.size ≤ 64) := fun q hq => by have := name_len ((cols_parts hc1).2 q hq).1; omega
  clear hc1 hr1
  obtain ⟨c, r, rfl, hc, hs, hrs, hh⟩ := hT
  have hsl : hs.length ≤ 4096 := by rw [hh.1]; exact hr
  obtain ⟨p', cap', rfl, -⟩ := hrs
  obtain ⟨p, cap, rfl, -⟩ := hc
  generalize cs.length = n at *
  generalize hs.length = m at *
  have hm : (m : Int) ≤ 4096 := by omega
  have HB := hid ((Below.refl w.heap.size w).alloc (Nat.le_refl _) (.cells #[.slice p n cap, .slice p' m cap'] 25))
  have KB := hid (alloc_block w (.cells #[.slice p n cap, .slice p' m cap'] 25))
  have HZ := hid h
  clear h hh hr hsl
  have HLEN := hid hlen
  clear hlen
  go_enter Try.func27, Try.ntmps27
  go_wp2_with (first
    | (go_at_call 15; refine (rcheck_any (HT.out.on HB.out)).mono ?_; rintro e w1 ⟨rfl, hb1⟩; rw [HZ.out]; have HB1 := hid (below_on HB.out hb1); have KB1 := hid (block_on KB.out hb1); have kb1 := block_cell KB1.out; clear hb1)
    | (go_at_call 71; refine (rbody_any (HT.out.on HB1.out) HS.out HN.out (by have := HLEN.out; omega)).mono ?_; rintro e w2 ⟨v2, rfl, hown2, hf2⟩; have HO2 := hid hown2; have HB2 := hid (below_on HB1.out hf2.low); obtain ⟨p2, c2, rfl⟩ := hown2.form; generalize hbl : (bodyB cs rs).length = bl at *; have HBL := hid hbl; clear hown2 hf2 hbl kb1)
    | (go_at_call 63; have FIRST := HO2; refine (rbig_any (width := 4) (B := w2.heap.size) (OwnB.nil _ _) (by decide) (Nat.le_refl _) (by simp)).mono ?_; rintro e w3 ⟨v3, rfl, hown3, hf3⟩; rw [List.nil_append] at hown3; have HO3 := hid hown3; have HF3 := hid hf3; have HOB := hid HO2.out; clear hown3 hf3 HO2 FIRST)
    | (at_builtin; refine appF_any rfl _ _ rfl rfl HO3.out rfl (OwnB.on HOB.out HF3.out.low).bat (by have := HLEN.out; have := HBL.out; rw [bigB_len]; omega) HF3.out.size ?_; intro v4 w4 hown4 hf4; have HO4 := hid hown4; have HF4 := hid (HF3.out.trans hf4); have HSUM := hid (rsum_any (OwnB.on HOB.out HF4.out.low).bat); have hr0 := u_range (sum (bodyB cs rs)); have hr1 : u (sum (bodyB cs rs)) ≤ 4294967295 := (by omega); have hr2 := hr0.1; clear hown4 hf4 hr0; generalize hsm : u (sum (bodyB cs rs)) = sm at *; have HSM := hid hsm; clear hsm; have hwr : wrap64 sm = sm := (by unfold wrap64; omega))
    | (go_at_call 72; refine HSUM.out.mono ?_; rintro e w5 ⟨rfl, rfl⟩)
    | (go_at_call 63; refine (rbig_any (width := 4) HO4.out (by decide) HF4.out.size (by have := HLEN.out; have := HBL.out; rw [List.length_append, bigB_len]; omega)).mono ?_; rintro e w6 ⟨v6, rfl, hown6, hf6⟩))
  exact bodyPost_ret (v := .tuple #[v6, .int .i64 0]) (by simp [results, Try.results27, go_sem]) rfl ⟨_, rfl, by
    have h6 := OwnB.le hown6 HB2.out.size
    rw [List.append_assoc, ← HBL.out, ← HSM.out] at h6
    exact h6, HB2.out.trans ((HF4.out.trans hf6).low.mono HB2.out.size)⟩
set_option maxRecDepth 100000 in
set_option maxHeartbeats 1000000 in
theorem renc_long {v : Value} {cs : List Cl} {rs : List Rw} {w : World} (hT : TabAt w v cs rs) (h : checkV cs rs = 0) (hr : 4096 < rs.length) :
    Calls Try.prog 27 #[v] w fun e w' => e = .returned (.tuple #[.slice none 0 0, .int .i64 2]) ∧ Below w.heap.size w w' := by
  have HT := hid hT
  obtain ⟨c, r, rfl, hc, hs, hrs, hh⟩ := hT
  have hsl : 4096 < hs.length := by rw [hh.1]; exact hr
  obtain ⟨p', cap', rfl, -⟩ := hrs
  obtain ⟨p, cap, rfl, -⟩ := hc
  generalize cs.length = n at *
  generalize hs.length = m at *
  have hm : (4096 : Int) < (m : Int) := by omega
  have HB := hid ((Below.refl w.heap.size w).alloc (Nat.le_refl _) (.cells #[.slice p n cap, .slice p' m cap'] 25))
  have KB := hid (alloc_block w (.cells #[.slice p n cap, .slice p' m cap'] 25))
  have HZ := hid h
  clear h hh hr hsl
  go_enter Try.func27, Try.ntmps27
  go_wp2_with (first
    | (go_at_call 15; refine (rcheck_any (HT.out.on HB.out)).mono ?_; rintro e w1 ⟨rfl, hb1⟩; rw [HZ.out]; have HB1 := hid (below_on HB.out hb1); have KB1 := hid (block_on KB.out hb1); have kb1 := block_cell KB1.out; clear hb1))
  exact bodyPost_ret (v := .tuple #[.slice none 0 0, .int .i64 2]) (by simp [results, Try.results27, go_sem]) rfl ⟨rfl, HB1.out⟩
end Go.Proofs.Ytjfholofgohcjaa
