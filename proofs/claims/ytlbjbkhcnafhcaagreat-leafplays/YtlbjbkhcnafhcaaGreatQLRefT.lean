/-
  The reference's Scan where there is such a schema.
-/
import Derived.Test.YtlbjbkhcnafhcaaGreatP42LRefS
import Derived.Test.YtlbjbkhcnafhcaaGreatQRCanon
import Derived.Test.YtlbjbkhcnafhcaaGreatP23SStep
namespace Go.Proofs.YtlbjbkhcnafhcaaGreat
open Go.RowKit Go.Sort Go.Shelf Go.Maps

theorem scan_no {pts : List Pt} {nm : ByteArray} {a z : Int} {k : Nat} {q : Pt} (h : pts[k]? = some q) (hn : ofP nm a z q = false) : scanR (pts.take (k + 1)) nm a z = scanR (pts.take k) nm a z := by
  unfold scanR
  rw [List.take_add_one, h]
  simp [List.filter_append, hn]
theorem scan_yes {pts : List Pt} {nm : ByteArray} {a z : Int} {k : Nat} {q : Pt} (h : pts[k]? = some q) (hn : ofP nm a z q = true) : scanR (pts.take (k + 1)) nm a z = scanR (pts.take k) nm a z ++ [rowP q] := by
  unfold scanR
  rw [List.take_add_one, h]
  simp [List.filter_append, hn]
theorem headsQ {Q : Nat → Prop} {w : World} {hs : List Value} {rs : List Rw} (h : HeadsP Q w hs rs) : HeadsIn (fun b => Q b ∧ b < w.heap.size) w hs rs := ⟨h.1, fun j x r h1 h2 => (h.2 j x r h1 h2).imp fun _ ⟨a, _, _, hc⟩ => ⟨a, lt_of_block hc⟩⟩
abbrev S12 (ba : Nat) (x y : Value) (w : World) : Prop := w.cell? ⟨ba, 1, none⟩ = some x ∧ w.cell? ⟨ba, 3, none⟩ = some y
theorem s12D {w : World} {ba : Nat} {x y : Value} (h : S12 ba x y w) : S12 ba x y w.drew := h
theorem s12A {w : World} {ba : Nat} {x y : Value} (h : S12 ba x y w) (o : Obj) : S12 ba x y (w.alloc o) := ⟨Lib.cell?_alloc_some _ h.1, Lib.cell?_alloc_some _ h.2⟩
theorem s12B {w w' : World} {ba : Nat} {x y : Value} (h : S12 ba x y w) (hb : w'.heap[ba]? = w.heap[ba]?) : S12 ba x y w' :=
  ⟨(World.cell?_of_block (a := ⟨ba, 1, none⟩) hb).trans h.1, (World.cell?_of_block (a := ⟨ba, 3, none⟩) hb).trans h.2⟩
theorem s12On {w w' : World} {B ba : Nat} {x y : Value} (h : S12 ba x y w) (hb : Below B w w') (h1 : ba < B) : S12 ba x y w' := s12B h (hb.block ba h1)
theorem s12W {w : World} {ba bt i : Nat} {x y u : Value} (h : S12 ba x y w) (hn : Hid (ba ≠ bt)) : S12 ba x y (w.setCell ⟨bt, i, none⟩ u) := s12B h (Below.heap_setCell _ _ _ _ hn.out)
theorem bt_at {W1 W6 w7 : World} {WTs BT : Nat} {cv vr : Value} {hs : List Value} (hK : W1.heap[BT]? = some (.cells #[cv, vr] 44)) (hBT : BT < WTs) (hO : Own one 1 32 WTs W1 vr hs) (hb6 : Below W1.heap.size W1 W6) (hg : W6.grownBy w7 vr.ownBlock) : w7.heap[BT]? = some (.cells #[cv, vr] 44) :=
  (Kp.grown (T := fun k => vr.ownBlock = some k) hg (fun _ e => e)).blk (block_on hK hb6) (fun e => by have := (own_at hO e).1; omega)
theorem scan_fin {WT W1 w5 W6 w7 : World} {BT : Nat} {cv vr vn u : Value} {hs : List Value} {rs : List Rw} {r : Rw}
    (hK : W1.heap[BT]? = some (.cells #[cv, vr] 44)) (hBT : BT < WT.heap.size) (hO : Own one 1 32 WT.heap.size W1 vr hs) (hR : HeadsP (fun k => WT.heap.size ≤ k) W1 hs rs) (hKp : Kp (fun k => k = BT) WT W1) (hb5 : Below W1.heap.size W1 w5) (hO5 : Own Vl.cells 11 40 (W1.heap.size + 1) w5 u r) (hlen : List.length r * bsz 11 ≤ 140737488355328) (hb6 : Below w5.heap.size w5 W6) (hg : W6.grownBy w7 vr.ownBlock) (hO7 : Own one 1 32 WT.heap.size w7 vn (hs ++ [u])) :
    (w7.setCell ⟨BT, 1, none⟩ vn).heap[BT]? = some (.cells #[cv, vn] 44) ∧ Own one 1 32 WT.heap.size (w7.setCell ⟨BT, 1, none⟩ vn) vn (hs ++ [u]) ∧ HeadsP (fun k => WT.heap.size ≤ k) (w7.setCell ⟨BT, 1, none⟩ vn) (hs ++ [u]) (rs ++ [r]) ∧ Kp (fun k => k = BT) WT (w7.setCell ⟨BT, 1, none⟩ vn) := by
  have hb16 : Below W1.heap.size W1 W6 := hb5.trans (hb6.mono hb5.size)
  have hO6 := own_kp (T := fun _ => False) hO (Kp.of hb16) (fun _ _ => id)
  have hk7 : Kp (fun k => vr.ownBlock = some k) W6 w7 := Kp.grown hg (fun k e => e)
  have hK7 := bt_at hK hBT hO hb16 hg
  have hset : Kp (fun k => k = BT) w7 (w7.setCell ⟨BT, 1, none⟩ vn) := Kp.set (T := fun k => k = BT) rfl vn
  have hty : ∀ {Q : Nat → Prop} (k : Nat), ty36 Q w7 k → ¬ k = BT := fun k hk e => by
    subst e
    obtain ⟨-, c', f', hc'⟩ := hk
    rw [hK7] at hc'; cases hc'
  refine ⟨?_, own_kp hO7 hset (fun k hk e => by have := (own_at hO7 hk).1; have e' : k = BT := e; omega), ?_, ?_⟩
  · have := Joins.block_setCell (i := 1) hK7 vn
    simpa using this
  · refine HeadsP.kp (HeadsP.snoc ((hR.on hb16).kp hk7 (fun k hk => off32 hO6 hk)) ?_) hset (fun k hk => hty k hk)
    have hs1 : WT.heap.size ≤ W1.heap.size := hKp.size
    have h1 := row_kp (T := fun _ => False) (own_rowT (P := fun k => WT.heap.size ≤ k) hO5 (fun k hk => by omega) hlen) (Kp.of hb6) (fun _ _ => id)
    exact row_kp h1 hk7 (fun k hk => off32 hO6 hk)
  · exact ((hKp.trans (Kp.of hb16)).trans' hk7 (fun i hi e => by have := (own_at hO e).1; omega)).trans hset
theorem below_own {α : Type} {enc : α → List Value} {k e B : Nat} {w w' : World} {v : Value} {xs : List α} (h : Own enc k e B w v xs) (hg : w.grownBy w' v.ownBlock) (hB : B ≤ w.heap.size) : Below B w w' :=
  (Kp.grown (T := fun k => v.ownBlock = some k) hg (fun _ e => e)).below hB (fun _ hk => (own_at h hk).1)
theorem own_vT {B : Nat} {w : World} {n : Int} (hB : B ≤ w.heap.size) : Own Vl.cells 11 40 B (w.alloc (.cells #[.int .i64 1, .int .i64 n, .string ⟨#[]⟩, .int .i64 0, .int .i64 0, .int .i64 0, .int .i64 0, .int .i64 0, .int .i64 0, .int .i64 0, .int .i64 0] 40)) (.slice (some ⟨w.heap.size, 0, none⟩) 1 1) [vT n] :=
  ⟨rfl, .inr ⟨w.heap.size, 1, _, rfl, hB, alloc_block w _, Nat.le_refl _, by decide, rfl, rfl⟩⟩
set_option maxRecDepth 100000 in
set_option maxHeartbeats 4000000 in
theorem rfscan_some {B : Nat} {P : Nat → Prop} {w : World} {yb : Nat} {ps : Option Addr} {ns cs : Nat} {S : List Sc} {room : Int} {v : Value} {pts : List Pt} {nm : ByteArray} {a z : Int} {J : Nat} (h : Rf B P w yb (.slice ps ns cs) room v pts) (hs : SchsAt w (.slice ps ns cs) S) (hc : checkS S = 0) (hJ : J < S.length) (hn : atS S nm = (J : Int)) (hl : pts.length ≤ 254) (hz : ∀ p ∈ pts, List.length p.ks ≤ 4 ∧ List.length p.vs ≤ 4) :
    Calls Tryz.prog 14 #[dp yb, .string nm, .int .i64 a, .int .i64 z] w (ScP w S pts nm a z) := by
  obtain ⟨pl, cl, hve, hcl, hx⟩ := h.get (Nat.le_trans hl (by decide))
  have HX := hid hx
  have hblk := h.blk
  rw [hve] at hblk
  have hB0 := (Below.refl w.heap.size w).alloc (Nat.le_refl _) (.cells #[.slice none 0 0, .slice none 0 0] 44)
  have HB0 := hid hB0
  have KB0 := hid (alloc_block w (.cells #[.slice none 0 0, .slice none 0 0] 44))
  have hk0 := block_cell (block_on hblk hB0) 0
  have HY := hid hblk
  have HSc := hid (hs.on hB0)
  have HN := hid hn
  have hn0 : ¬ atS S nm < 0 := by omega
  have E1 : Hid (scE S nm = 0) := if_neg hn0
  have E2 : Hid (scC S nm = colsS S[J]!) := by show _ = _; unfold scC; rw [if_neg hn0, hn, Int.toNat_natCast]
  have E3 : Hid (scR S pts nm a z = sortR (scanR pts nm a z)) := if_neg hn0
  have hmay : mayB S[J]! = true := by rw [getElem!_pos S J hJ]; exact (check_parts0 hc).2.1 _ (List.getElem_mem hJ)
  have HCl : Hid ((S[J]!).ks.length + (S[J]!).vs.length ≤ 3000000) := by
    simp only [mayB, kindsB, Bool.and_eq_true, decide_eq_true_eq] at hmay
    show _ ≤ _; omega
  have HZ := hid hz
  have HPl := hid hl
  generalize hs0 : S[J]! = s at *
  have HS0 := hid hs0
  clear h hs hB0 hn hn0 hmay hs0 hz hJ hc hx hve hblk
  generalize hNN : pts.length = NN at *
  have HNN := hid hNN
  clear hNN
  go_enter Tryz.func14, Tryz.ntmps14
  go_upto_region 4 with (first
    | (go_at_call 38; refine (rfind_some HSc.out HN.out).mono ?_; rintro e w1 ⟨pk, nk, ck, pv, nv, cv, rfl, hck, hcv, hb1⟩; rw [HS0.out] at hck hcv ⊢; have HCk := hid hck; have HCv := hid hcv; have HB1 := hid (HB0.out.trans (hb1.mono HB0.out.size)); have KB1 := hid (block_on KB0.out hb1); clear hb1 hk0 hck hcv))
  have hb2 := (Below.refl w1.heap.size w1).alloc (Nat.le_refl _) (.cells #[.string s.nm, .slice pk nk ck, .slice pv nv cv] 52)
  have HB2 := hid (HB1.out.trans (hb2.mono HB1.out.size))
  have KX := block_cell (alloc_block w1 (.cells #[.string s.nm, .slice pk nk ck, .slice pv nv cv] 52))
  have KB2 := hid (block_on KB1.out hb2)
  have HCk2 := hid (HCk.out.on hb2)
  have HCv2 := hid (HCv.out.on hb2)
  clear hb2 HCk HCv HB1 KB1
  generalize w1.heap.size = BX at *
  generalize (w1.alloc (.cells #[.string s.nm, .slice pk nk ck, .slice pv nv cv] 52)) = W at *
  go_wp2_with (first
    | (go_at_call 39; refine (rscols_any (s := s) ⟨_, _, rfl, HCk2.out, HCv2.out⟩ HCl.out).mono ?_; rintro e w2 ⟨u6, rfl, hc6, hb6⟩; have hf6 := hc6; obtain ⟨p6, c6, rfl, -⟩ := hf6; have HC6 := hid hc6; have HB6 := hid (HB2.out.trans (hb6.mono HB2.out.size)); have KB6 := hid (block_on KB2.out hb6); clear hc6 hb6))
  have hbT := (Below.refl w2.heap.size w2).alloc (Nat.le_refl _) (.cells #[.slice p6 (colsS s).length c6, .slice none 0 0] 44)
  have HBT := hid (HB6.out.trans (hbT.mono HB6.out.size))
  have KT := hid (alloc_block w2 (.cells #[.slice p6 (colsS s).length c6, .slice none 0 0] 44))
  have KBT := hid (block_on KB6.out hbT)
  have HCT : Hid (∀ w', Below w2.heap.size w2 w' → ColsAt w' (.slice p6 (colsS s).length c6) (colsS s)) := fun w' hb => HC6.out.on hb
  have HbT := hid hbT
  have hWT : (w2.alloc (.cells #[.slice p6 (colsS s).length c6, .slice none 0 0] 44)).heap.size = w2.heap.size + 1 := by simp
  have hBT : w.heap.size ≤ w2.heap.size := HB6.out.size
  have hBw : w.heap.size < w2.heap.size := lt_of_block KB6.out
  clear hbT HB6 KB6 HC6 KX HCk2 HCv2 KB2 HB2
  generalize w2.heap.size = BT at *
  generalize (w2.alloc (.cells #[.slice p6 (colsS s).length c6, .slice none 0 0] 44)) = WT at *
  go_loopw [13] (fun i wr => ∃ (k : Nat) (vr : Value) (hs' : List Value), k ≤ NN ∧ i = .int .i64 k ∧ Hid (wr.heap[BT]? = some (.cells #[.slice p6 (colsS s).length c6, vr] 44)) ∧ Hid (Own one 1 32 WT.heap.size wr vr hs') ∧ Hid (HeadsP (fun k => WT.heap.size ≤ k) wr hs' (scanR (pts.take k) nm a z)) ∧ Hid (Kp (fun k => k = BT) WT wr)) (fun i _ => NN - (intOf i).toNat)
  case atStart => exact ⟨0, _, [], by omega, rfl, KT.out, Own.nil _ _ _ _ _, HeadsP.nil _ _, Kp.refl _ _⟩
  case round =>
    obtain ⟨k, vr, hs', hk, rfl, HK, HO, HR, HKp⟩ := hrel
    have HBw : Hid (Below w.heap.size w wr) := HBT.out.trans (HKp.out.below HBT.out.size (fun k e => by have e' : k = BT := e; omega))
    have y2 : wr.cell? ⟨yb, 2, none⟩ = some (.slice pl NN cl) := block_cell (block_on HY.out HBw.out) 2
    by_cases hlt : k < NN
    · have hk' : k < pts.length := by rw [HNN.out]; exact hlt
      obtain ⟨q, hq⟩ : ∃ q, pts[k]? = some q := ⟨pts[k], List.getElem?_eq_getElem hk'⟩
      obtain ⟨g, o, pk', ck', pv', cv', rfl, hpc⟩ := HX.out k q hq
      obtain ⟨c0, c1, c2, c3, hks, hvs⟩ := hpc.on HBw.out
      have HKs := hid hks
      have HVs := hid hvs
      have HQ := hid hq
      obtain ⟨hz1, hz2⟩ := HZ.out q (List.mem_of_getElem? hq)
      clear hks hvs hpc hq hk'
      generalize hnk' : List.length q.ks = nk' at *
      generalize hnv' : List.length q.vs = nv' at *
      obtain ⟨W1, hW1⟩ : ∃ W, W = wr := ⟨wr, rfl⟩
      subst hW1
      have hBx := (Below.refl W1.heap.size W1).alloc (Nat.le_refl _) (.cells #[.string q.sc, .slice pk' nk' ck', .int .i64 q.tm, .slice pv' nv' cv'] 34)
      have HBx := hid hBx
      have skip : ofP nm a z q = false → ∃ (k' : Nat) (vr : Value) (hs' : List Value), k' ≤ NN ∧ Value.int .i64 ((k : Int) + 1) = .int .i64 k' ∧ Hid ((W1.alloc (.cells #[.string q.sc, .slice pk' nk' ck', .int .i64 q.tm, .slice pv' nv' cv'] 34)).heap[BT]? = some (.cells #[.slice p6 (colsS s).length c6, vr] 44)) ∧ Hid (Own one 1 32 WT.heap.size (W1.alloc (.cells #[.string q.sc, .slice pk' nk' ck', .int .i64 q.tm, .slice pv' nv' cv'] 34)) vr hs') ∧ Hid (HeadsP (fun k => WT.heap.size ≤ k) (W1.alloc (.cells #[.string q.sc, .slice pk' nk' ck', .int .i64 q.tm, .slice pv' nv' cv'] 34)) hs' (scanR (pts.take k') nm a z)) ∧ Hid (Kp (fun k => k = BT) WT (W1.alloc (.cells #[.string q.sc, .slice pk' nk' ck', .int .i64 q.tm, .slice pv' nv' cv'] 34))) := fun e =>
        ⟨k + 1, vr, hs', by omega, by go_num, block_on HK.out hBx, own_kp (T := fun _ => False) HO.out (Kp.of hBx) (fun _ _ => id), by show HeadsP _ _ _ _; rw [scan_no HQ.out e]; exact HR.out.on hBx, HKp.out.trans (Kp.of hBx)⟩
      have HSkip := hid skip
      clear skip hBx
      by_cases hnm : q.sc = nm
      · by_cases h1 : a ≤ q.tm
        · by_cases h2 : q.tm ≤ z
          · have hyes : ofP nm a z q = true := by simp only [ofP, decide_eq_true_eq]; exact ⟨hnm, h1, h2⟩
            have HT := hid (scan_yes HQ.out hyes)
            rw [hnm] at c0 HBx
            clear HSkip
            have hsz : (W1.alloc (.cells #[.string nm, .slice pk' nk' ck', .int .i64 q.tm, .slice pv' nv' cv'] 34)).heap.size = W1.heap.size + 1 := by simp
            have hV := (Below.refl (W1.heap.size + 1) (W1.alloc (.cells #[.string nm, .slice pk' nk' ck', .int .i64 q.tm, .slice pv' nv' cv'] 34))).alloc (by omega) (.cells #[.int .i64 1, .int .i64 q.tm, .string ⟨#[]⟩, .int .i64 0, .int .i64 0, .int .i64 0, .int .i64 0, .int .i64 0, .int .i64 0, .int .i64 0, .int .i64 0] 40)
            have HOv : Hid (Own Vl.cells 11 40 (W1.heap.size + 1) ((W1.alloc (.cells #[.string nm, .slice pk' nk' ck', .int .i64 q.tm, .slice pv' nv' cv'] 34)).alloc (.cells #[.int .i64 1, .int .i64 q.tm, .string ⟨#[]⟩, .int .i64 0, .int .i64 0, .int .i64 0, .int .i64 0, .int .i64 0, .int .i64 0, .int .i64 0, .int .i64 0] 40)) (.slice (some ⟨W1.heap.size + 1, 0, none⟩) 1 1) [vT q.tm]) := by have := own_vT (B := W1.heap.size + 1) (w := W1.alloc (.cells #[.string nm, .slice pk' nk' ck', .int .i64 q.tm, .slice pv' nv' cv'] 34)) (n := q.tm) (by omega); rw [hsz] at this; exact this
            have HB3 : Hid (Below W1.heap.size W1 ((W1.alloc (.cells #[.string nm, .slice pk' nk' ck', .int .i64 q.tm, .slice pv' nv' cv'] 34)).alloc (.cells #[.int .i64 1, .int .i64 q.tm, .string ⟨#[]⟩, .int .i64 0, .int .i64 0, .int .i64 0, .int .i64 0, .int .i64 0, .int .i64 0, .int .i64 0, .int .i64 0] 40))) := HBx.out.trans (hV.mono (Nat.le_succ _))
            have hkA := block_cell (alloc_block W1 (.cells #[.string nm, .slice pk' nk' ck', .int .i64 q.tm, .slice pv' nv' cv'] 34))
            obtain ⟨pr, cr, hvr⟩ := own_formN HO.out rfl
            subst hvr
            have hBT1 : BT < W1.heap.size := lt_of_block HK.out
            have hS3 : S12 W1.heap.size (.slice pk' nk' ck') (.slice pv' nv' cv') ((W1.alloc (.cells #[.string nm, .slice pk' nk' ck', .int .i64 q.tm, .slice pv' nv' cv'] 34)).alloc (.cells #[.int .i64 1, .int .i64 q.tm, .string ⟨#[]⟩, .int .i64 0, .int .i64 0, .int .i64 0, .int .i64 0, .int .i64 0, .int .i64 0, .int .i64 0, .int .i64 0] 40)) := s12On (B := W1.heap.size + 1) ⟨hkA 1, hkA 3⟩ hV (Nat.lt_succ_self _)
            have hsz3 : W1.heap.size + 1 ≤ ((W1.alloc (.cells #[.string nm, .slice pk' nk' ck', .int .i64 q.tm, .slice pv' nv' cv'] 34)).alloc (.cells #[.int .i64 1, .int .i64 q.tm, .string ⟨#[]⟩, .int .i64 0, .int .i64 0, .int .i64 0, .int .i64 0, .int .i64 0, .int .i64 0, .int .i64 0, .int .i64 0] 40)).heap.size := by rw [World.size_alloc, hsz]; omega
            clear hV
            go_upto_region 11 with fail
            clear hkA
            have HS3 := hid hS3
            have HZ3 := hid hsz3
            clear hsz3 hS3
            generalize ((W1.alloc (.cells #[.string nm, .slice pk' nk' ck', .int .i64 q.tm, .slice pv' nv' cv'] 34)).alloc (.cells #[.int .i64 1, .int .i64 q.tm, .string ⟨#[]⟩, .int .i64 0, .int .i64 0, .int .i64 0, .int .i64 0, .int .i64 0, .int .i64 0, .int .i64 0, .int .i64 0] 40)) = W3 at *
            have HKs3 := hid (HKs.out.on HB3.out)
            have HVs3 := hid (HVs.out.on HB3.out)
            have hlen' : hs'.length ≤ 254 := by rw [HR.out.1]; unfold scanR; rw [List.length_map]; refine Nat.le_trans (List.length_filter_le _ _) ?_; rw [List.length_take]; omega
            have HLn := hid hlen'
            have HZk : Hid (nk' ≤ 4 ∧ nv' ≤ 4) := ⟨hz1, hz2⟩
            have HNk := hid hnk'
            have HNv := hid hnv'
            have HBT1 := hid hBT1
            have hBTs : BT < WT.heap.size := by omega
            have HBTs := hid hBTs
            have HLr : Hid (List.length ([vT q.tm] ++ q.ks ++ q.vs) * bsz 11 ≤ 140737488355328) := by show _ ≤ _; simp only [List.length_append, List.length_singleton]; rw [HNk.out, HNv.out]; have := HZk.out.1; have := HZk.out.2; unfold bsz; simp; omega
            have t3 : W3.cell? ⟨BT, 1, none⟩ = some (.slice pr hs'.length cr) := block_cell (block_on HK.out HB3.out) 1
            have M1 : Hid True := trivial
            clear hlen' hnk' hnv' hBT1
            generalize hBA : W1.heap.size = BA at *
            have HBA := hid hBA
            clear hBA
            have HNe : Hid (BA ≠ BT) := by have := HBT1.out; show BA ≠ BT; omega
            have hSd : S12 BA (.slice pk' nk' ck') (.slice pv' nv' cv') W3 := HS3.out
            obtain ⟨a3, b3⟩ := hSd
            go_region_law
              (first
              | (have FIRST := M1; refine RN.step_appP (N := bsz 11) (B := BA + 1) (xs := [vT q.tm]) (ys := q.ks) elem48.N vl_len (fun x _ => vl_cells x) rfl (.tmp 69) (.tmp 71) rfl (by simp [Act.eval]; try rfl) (by simp [Act.eval]; try rfl) (own_kp (T := fun _ => False) HOv.out (Kp.of (Below.refl W3.heap.size W3).drew) (fun _ _ => id)) (HKs3.out.on (Below.refl _ _).drew) (by rw [HNk.out]; have := HZk.out.1; unfold bsz; simp; omega) (by decide) HZ3.out ?_; intro v4 w4 hown4 hg4 hat4; have hb4 : Below (BA + 1) W3 w4 := (Below.refl (BA + 1) W3).drew.trans (below_own (own_kp (T := fun _ => False) HOv.out (Kp.of (Below.refl W3.heap.size W3).drew) (fun _ _ => id)) hg4 HZ3.out); obtain ⟨p4, d4, rfl⟩ := own_formN (n := 1 + nk') hown4 (by simp [HNk.out]; omega); have HO4 := hid hown4; have HB4 := hid hb4; have hS4 := s12On HS3.out hb4 (Nat.lt_succ_self _); have HS4 := hid hS4; have hb14 : Below W1.heap.size W1 w4 := (by have e := HBA.out; rw [e]; exact HB3.out.trans (hb4.mono (by omega))); have HV4 : Hid (RowAt w4 (.slice pv' nv' cv') q.vs) := HVs.out.on hb14; have t4 : w4.cell? ⟨BT, 1, none⟩ = some (.slice pr hs'.length cr) := block_cell (block_on HK.out hb14) 1; have HZ4 : Hid (BA + 1 ≤ w4.heap.size) := Nat.le_trans HZ3.out hb4.size; have M2 : Hid True := trivial; clear hown4 hg4 hat4 hb4 hb14 FIRST M1 a3 b3 t3; obtain ⟨-, b4⟩ := hS4)
              | (have FIRST := M2; refine RN.step_appP (N := bsz 11) (B := BA + 1) (xs := [vT q.tm] ++ q.ks) (ys := q.vs) elem48.N vl_len (fun x _ => vl_cells x) rfl (.tmp 72) (.tmp 74) rfl (by simp [Act.eval]; try rfl) (by simp [Act.eval]; try rfl) HO4.out HV4.out (by simp only [List.length_append, List.length_singleton]; rw [HNk.out, HNv.out]; have := HZk.out.1; have := HZk.out.2; unfold bsz; simp; omega) (by decide) HZ4.out ?_; intro v5 w5 hown5 hg5 hat5; have hb5 : Below (BA + 1) w4 w5 := (below_own HO4.out hg5 HZ4.out); obtain ⟨p5, d5, rfl⟩ := own_formN (n := 1 + nk' + nv') hown5 (by simp [HNk.out, HNv.out]; omega); have HO5 := hid hown5; have HB5 : Hid (Below (BA + 1) W3 w5) := HB4.out.trans (hb5.mono (Nat.le_refl _)); have hS5 := s12On HS4.out hb5 (Nat.lt_succ_self _); have HS5 := hid hS5; have hb15 : Below W1.heap.size W1 w5 := (by have e := HBA.out; rw [e]; exact HB3.out.trans (HB5.out.mono (by omega))); have t5 : w5.cell? ⟨BT, 1, none⟩ = some (.slice pr hs'.length cr) := block_cell (block_on HK.out hb15) 1; have t5a : ∀ A, (w5.alloc A).cell? ⟨BT, 1, none⟩ = some (.slice pr hs'.length cr) := (fun A => Lib.cell?_alloc_some _ t5); have HO6 := hid (own_kp (T := fun _ => False) HO.out (Kp.of hb15) (fun _ _ => id)); have HZ6 : Hid (WT.heap.size ≤ w5.heap.size) := Nat.le_trans HKp.out.size hb15.size; have HB15 := hid hb15; clear hb15; have M3 : Hid True := trivial; clear hown5 hg5 hat5 hb5 FIRST M2 b4 t4 hS5)
              | (have FIRST := M3; refine RN.step_appP (N := bsz 1) (B := WT.heap.size) (xs := hs') (ys := [.slice p5 (1 + nk' + nv') d5]) elem35.N one_len (fun x hx => by simp at hx; subst hx; intro c hc; simp [one] at hc; subst hc; rfl) rfl (.tmp 68) (.tmp 76) rfl (by simp [Act.eval]; try rfl) (by simp [Act.eval]; try rfl) (own_kp (T := fun _ => False) HO6.out (Kp.of ((Below.refl w5.heap.size w5).alloc (Nat.le_refl _) _)) (fun _ _ => id)) RN.one1 (bs24 (Nat.le_trans HLn.out (by decide)) (by simp)) (by decide) (by rw [World.size_alloc]; exact Nat.le_succ_of_le HZ6.out) ?_; intro v7 w7 hown7 hg7 hat7; have hK7 := bt_at HK.out HBTs.out HO.out (HB15.out.trans (((Below.refl w5.heap.size w5).alloc (Nat.le_refl _) _).mono HB15.out.size)) hg7; have t7 := block_cell hK7 1; have f7 := frozen_no hK7 1; obtain ⟨p7, d7, rfl⟩ := own_formN (n := hs'.length + 1) hown7 (by simp); have HO7 := hid hown7; have HG7 := hid hg7; have hS7 : S12 BA (.slice pk' nk' ck') (.slice pv' nv' cv') w7 := s12B (s12A HS5.out _) (hg7.block BA (by have := HBA.out; have := HB15.out.size; rw [World.size_alloc]; have := HZ4.out; have := HB5.out.size; have := HZ3.out; omega) (fun e => by have := (own_at HO.out e.symm).2; have := HBA.out; omega)); clear hown7 hg7 hat7 hK7 FIRST M3 hS7 t5 t5a))
            all_goals
              go_wp2_with fail
              go_roundw
              case rel =>
                have e := HBA.out
                have hfin := scan_fin HK.out HBTs.out HO.out HR.out HKp.out HB15.out (by rw [e]; exact HO5.out) HLr.out ((Below.refl w5.heap.size w5).alloc (Nat.le_refl _) _) HG7.out HO7.out
                exact ⟨k + 1, _, _, by omega, by go_num, hfin.1, hfin.2.1, by show HeadsP _ _ _ _; rw [HT.out]; exact hfin.2.2.1, hfin.2.2.2⟩
              case measure => simp [intOf]; omega
          · have hno : ofP nm a z q = false := by simp only [ofP, decide_eq_false_iff_not]; exact fun e => h2 e.2.2
            rw [hnm] at c0 HSkip
            go_wp2_with fail
            go_roundw
            case rel => exact HSkip.out hno
            case measure => simp [intOf]; omega
        · have hno : ofP nm a z q = false := by simp only [ofP, decide_eq_false_iff_not]; exact fun e => h1 e.2.1
          rw [hnm] at c0 HSkip
          go_wp2_with fail
          go_roundw
          case rel => exact HSkip.out hno
          case measure => simp [intOf]; omega
      · have hno : ofP nm a z q = false := by simp only [ofP, decide_eq_false_iff_not]; exact fun e => hnm e.1
        have hnb : (q.sc.toList == nm.toList) = false := by rw [bytes_beq]; simpa using hnm
        go_wp2_with fail
        go_roundw
        case rel => exact HSkip.out hno
        case measure => simp [intOf]; omega
    · have hks : k = NN := by omega
      subst hks
      have hta : pts.take k = pts := List.take_of_length_le (by rw [HNN.out]; exact Nat.le_refl _)
      rw [hta] at HR
      have hlen' : hs'.length ≤ 254 := by rw [HR.out.1]; unfold scanR; rw [List.length_map]; exact Nat.le_trans (List.length_filter_le _ _) (by rw [HNN.out]; exact HPl.out)
      have HSl := hid (Own.sl HO.out one_len (by unfold bsz; simp; omega))
      obtain ⟨pr, cr, rfl⟩ := own_formN HO.out rfl
      have t5 := block_cell HK.out
      have HC5 := hid (HCT.out _ (HbT.out.trans (HKp.out.below (by omega) (fun k e => by have e' : k = BT := e; omega))))
      have KB5 := hid (HKp.out.blk KBT.out (by omega))
      have HKs := hid HKp.out.size
      go_wp2_with (first
        | (go_at_call 40; refine (rcanon_q (Q := fun b => WT.heap.size ≤ b ∧ b < wr.heap.size) (fun b hb => hb.2) HC5.out (HSl.out.imp (fun _ _ => trivial)) (headsQ HR.out)).mono ?_; rintro e w7 ⟨tc, tr, hs7, rfl, hc7, hr7, hh7, hb7⟩; have HT7 : Hid (TabIn (fun b => WT.heap.size ≤ b) w7 (.agg #[tc, tr]) (colsS s) (sortR (scanR pts nm a z))) := ⟨_, _, rfl, hc7.imp (fun b hb => Nat.le_trans HKs.out hb), hs7, hr7.imp (fun b hb => Nat.le_trans HKs.out hb), hh7.imp (fun b hb => hb.1)⟩; obtain ⟨pc7, cc7, rfl, -⟩ := hc7; obtain ⟨pr7, cr7, rfl, -⟩ := hr7; have HB7 := hid hb7; have KB7 := hid (block_on KB5.out hb7); have k7 := block_cell KB7.out; have f7 := frozen_no KB7.out; clear hb7 hh7))
      have KF := Joins.block_setCell (i := 1) (Joins.block_setCell (i := 0) KB7.out (.slice pc7 (colsS s).length cc7)) (.slice pr7 hs7.length cr7)
      have hb7 : Below w.heap.size w w7 := HBw.out.trans (HB7.out.mono HBw.out.size)
      have HBF : Below w.heap.size w ((w7.setCell ⟨w.heap.size, 0, none⟩ (.slice pc7 (colsS s).length cc7)).setCell ⟨w.heap.size, 1, none⟩ (.slice pr7 hs7.length cr7)) := (hb7.setCell (Nat.le_refl _) _).setCell (Nat.le_refl _) _
      have hTF := tab_set (tab_set HT7.out (z := w.heap.size) (i := 0) (u := .slice pc7 (colsS s).length cc7) (fun g hg => by have hg' : WT.heap.size ≤ g := hg; omega)) (z := w.heap.size) (i := 1) (u := .slice pr7 hs7.length cr7) (fun g hg => by have hg' : WT.heap.size ≤ g := hg; omega)
      generalize ((w7.setCell ⟨w.heap.size, 0, none⟩ (.slice pc7 (colsS s).length cc7)).setCell ⟨w.heap.size, 1, none⟩ (.slice pr7 hs7.length cr7)) = WF at KF HBF hTF ⊢
      have kcf := block_cell KF
      clear KF k7 f7
      refine bodyPost_ret (v := .tuple #[.agg #[.slice pc7 (colsS s).length cc7, .slice pr7 hs7.length cr7], .int .i64 0]) (by simp [results, Tryz.results14, go_sem, kcf]) rfl ⟨_, by rw [E1.out], ?_, HBF⟩
      rw [E2.out, E3.out]
      exact hTF.imp fun g hg => by have hg' : WT.heap.size ≤ g := hg; omega
end Go.Proofs.YtlbjbkhcnafhcaaGreat
