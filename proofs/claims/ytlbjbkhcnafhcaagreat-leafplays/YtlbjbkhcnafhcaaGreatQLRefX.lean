/-
  What the reference's Write returns where it writes, and what it leaves.
-/
import Derived.Test.YtlbjbkhcnafhcaaGreatP40SRef3
import Derived.Test.YtlbjbkhcnafhcaaGreatQLWrite4
namespace Go.Proofs.YtlbjbkhcnafhcaaGreat
open Go.RowKit Go.Sort Go.Shelf Go.Maps

/- What is left of a Write that writes. -/
def Rw3 (B : Nat) (P : Nat → Prop) (w : World) (yb : Nat) (sv : Value) (room : Int) (v : Value) (pts : List Pt) (w' : World) : Prop := ∃ v', Rf B P w' yb sv room v' pts ∧ Kp (Ty yb v) w w' ∧ ∀ k, Ty yb v' k → Ty yb v k ∨ w.heap.size ≤ k
theorem Rf.ne {B : Nat} {P : Nat → Prop} {w : World} {yb : Nat} {sv : Value} {room : Int} {v : Value} {pts : List Pt} (h : Rf B P w yb sv room v pts) : v.ownBlock ≠ some yb := fun e => by
  obtain ⟨hs, h1, _⟩ := h.row
  obtain ⟨c, f, hc⟩ := own_kind h1 e
  rw [h.blk] at hc; cases hc
theorem Rf.ty_not {B : Nat} {P P' : Nat → Prop} {w : World} {yb : Nat} {sv : Value} {room : Int} {v : Value} {pts : List Pt} (h : Rf B P w yb sv room v pts) {k : Nat} (hk : ty36 P' w k) : ¬ Ty yb v k := fun e => by
  obtain ⟨cs, t, fz, hc, ht⟩ := h.T_kind k e
  obtain ⟨-, c, fz', hc'⟩ := hk
  rw [hc] at hc'
  cases hc'
  rcases ht with e | e <;> cases e
theorem rf_fin {B : Nat} {P : Nat → Prop} {w W6 W7 W8 : World} {yb : Nat} {sv : Value} {room : Int} {v v1 v2 v' : Value} {pts : List Pt} {p : Pt} {hs : List Ph} (h : Rf B P w yb sv room v pts) (h2 : HeadsY P w hs pts) (hb6 : Below w.heap.size w W6) (r1 : RowIn (ty36 P W6) W6 v1 p.ks) (r2 : RowIn (ty36 P W6) W6 v2 p.vs)
    (hb7 : Below W6.heap.size W6 W7) (hown : Own Ph.cells 4 34 B W8 v' (hs ++ [⟨p.sc, v1, p.tm, v2⟩])) (hg : W7.grownBy W8 v.ownBlock) (hat : RN.At W7 v v') : Rw3 B P w yb sv room v (pts ++ [p]) (W8.setCell ⟨yb, 2, none⟩ v') := by
  have f6 := h.on hb6
  have f7 := f6.on hb7
  have k8 : Kp (Ty yb v) W7 W8 := Kp.grown hg (fun k e => .inr e)
  have blk8 : W8.heap[yb]? = some (.cells #[sv, .int .i64 room, v] 50) := (Kp.grown (T := fun k => v.ownBlock = some k) hg (fun k e => e)).blk f7.blk h.ne
  have k9 : Kp (Ty yb v) W8 (W8.setCell ⟨yb, 2, none⟩ v') := Kp.set (.inl rfl) _
  have k69 : Kp (Ty yb v) W6 (W8.setCell ⟨yb, 2, none⟩ v') := ((Kp.of hb7).trans k8).trans k9
  have blk9 := RN.set_block (i := 2) blk8 v'
  refine ⟨v', ⟨h.bB, by simpa using blk9, ⟨_, own_kp (T := fun k => k = yb) hown (Kp.set (T := fun k => k = yb) rfl _) (fun g hg e => ?_), headsY_snoc ((h2.on hb6).kp k69 (fun k hk => f6.ty_not hk)) ⟨rfl, rfl, row_kp r1 k69 (fun k hk => f6.ty_not hk), row_kp r2 k69 (fun k hk => f6.ty_not hk)⟩⟩⟩, (Kp.of hb6).trans k69, ?_⟩
  · obtain ⟨c, f, hc⟩ := own_kind hown hg
    have e' : g = yb := e
    rw [e', blk8] at hc; cases hc
  · rintro k (rfl | hk)
    · exact .inl (.inl rfl)
    · rcases hat k hk with e | e
      · exact .inl (.inr e)
      · exact .inr (by have := hb6.size; have := hb7.size; omega)
/- A field of the box is set. -/
theorem box_at {P : Nat → Prop} {w w3 : World} {BX i : Nat} {cs : Array Value} {fz : Nat × Nat} {u v : Value} {r : Rw} (hb : Below w.heap.size w w3) (hX : w.heap.size ≤ BX) (hk : w3.heap[BX]? = some (.cells cs 34 fz)) (hr : RowIn (ty36 P w3) w3 u r) : Below w.heap.size w (w3.setCell ⟨BX, i, none⟩ v) ∧ RowIn (ty36 P (w3.setCell ⟨BX, i, none⟩ v)) (w3.setCell ⟨BX, i, none⟩ v) u r := by
  have k : Kp (fun k => k = BX) w3 (w3.setCell ⟨BX, i, none⟩ v) := Kp.set (T := fun k => k = BX) rfl _
  refine ⟨hb.trans (k.below hb.size (fun k e => by have e' : k = BX := e; omega)), row_kp hr k (fun k ⟨_, c, fz, hc⟩ e => ?_)⟩
  have e' : k = BX := e
  rw [e'] at hc
  rw [hk] at hc
  cases hc
set_option maxRecDepth 100000 in
set_option maxHeartbeats 4000000 in
theorem rfwrite_yes {B : Nat} {P : Nat → Prop} {w : World} {yb : Nat} {ps : Option Addr} {ns cs : Nat} {S : List Sc} {room : Int} {v : Value} {pts : List Pt} {u : Value} {p : Pt} (h : Rf B P w yb (.slice ps ns cs) room v pts) (hs : SchsAt w (.slice ps ns cs) S) (hp : PtAt w u p) (hl : pts.length ≤ 1000) (hf : fitsS S p = 0) (hhas : hasP pts p = false) (hroom : (pts.length : Int) < room) (hP : ∀ k, w.heap.size ≤ k → P k) :
    Calls Tryz.prog 12 #[dp yb, u] w fun e w' => e = .returned (.tuple #[.bool true, .int .i64 0]) ∧ Rw3 B P w yb (.slice ps ns cs) room v (pts ++ [p]) w' := by
  obtain ⟨pk, ck, pv, cv, rfl, hrk, hrv⟩ := pt_form hp
  obtain ⟨pl, cl, hve, hcl, hx⟩ := h.get hl
  have HRf := hid h
  have HP := hid hP
  have HRv0 := hid hrv
  have HRk0 := hid hrk
  have HRv := hid (hrv.on ((Below.refl w.heap.size w).alloc (Nat.le_refl _) (.cells #[.string p.sc, .slice pk (List.length p.ks) ck, .int .i64 p.tm, .slice pv (List.length p.vs) cv] 34)))
  have hblk := h.blk
  rw [hve] at hblk
  have HVe := hid hve
  clear hve
  have HX := hid hx
  have hB0 := (Below.refl w.heap.size w).alloc (Nat.le_refl _) (.cells #[.string p.sc, .slice pk (List.length p.ks) ck, .int .i64 p.tm, .slice pv (List.length p.vs) cv] 34)
  have HB0 := hid hB0
  have KB0 := alloc_block w (.cells #[.string p.sc, .slice pk (List.length p.ks) ck, .int .i64 p.tm, .slice pv (List.length p.vs) cv] 34)
  have hS0 := byOf KB0 (block_on hblk hB0)
  have KB := hid KB0
  have HS := hid hS0
  have HSc := hid (hs.on hB0)
  have HPt := hid (hp.on hB0)
  have HRk := hid (hrk.on hB0)
  have HF := hid hf
  have HHas := hid hhas
  clear KB0 hB0 hrk hrv hp hs h hf hx hblk hhas hP
  generalize hnk : List.length p.ks = nk at *
  generalize hnv : List.length p.vs = nv at *
  generalize hNN : pts.length = NN at *
  have HNN := hid hNN
  have HNK := hid hnk
  have HNV := hid hnv
  clear hNN hnk hnv
  go_enter Tryz.func12, Tryz.ntmps12
  go_wp2_with fail
  generalize hBX : w.heap.size = BX at *
  have HBX := hid hBX
  generalize (w.alloc (.cells #[.string p.sc, .slice pk nk ck, .int .i64 p.tm, .slice pv nv cv] 34)) = W at *
  clear hBX
  go_region_held3 (BY BX (.string p.sc) (.slice pk nk ck) (.int .i64 p.tm) (.slice pv nv cv) yb (.slice ps ns cs) (.int .i64 room) (.slice pl NN cl)) (((repeat (first | (with_reducible refine byD ?_) | (with_reducible refine byA ?_ _))); (with_reducible assumption)))
    (first
    | (refine step_call2 (v := .slice ps ns cs) (v2 := .agg #[.string p.sc, .slice pk nk ck, .int .i64 p.tm, .slice pv nv cv]) rfl (.tmp 12) (.tmp 13) 22 34 rfl (by simp [Act.eval]) (by simp [Act.eval]) enters31 ?_; refine (rsfits_is (HSc.out.on (Below.refl _ _).drew) (HPt.out.on (Below.refl _ _).drew) HF.out).mono ?_; rintro e w1 ⟨rfl, hb1⟩; refine ⟨_, rfl, ?_⟩; have HB1 : Hid (Below W.heap.size W w1) := (Below.refl _ _).drew.trans hb1; have hS1 := byOn HS.out HB1.out; clear hb1 hS0))
  clear hS1
  go_wp2_with fail
  have HBd : Hid (∀ w', Below W.heap.size W w' → Below w.heap.size w w') := fun w' hb => by
    have e := HBX.out
    rw [e]
    exact HB0.out.trans (hb.mono (by have := HB0.out.size; omega))
  go_loopw [7] (fun i wr => ∃ k : Nat, k ≤ NN ∧ i = .int .i64 k ∧ Hid (∀ (j : Nat) q, j < k → pts[j]? = some q → sameP p q = false) ∧ Hid (Below W.heap.size W wr)) (fun i _ => NN - (intOf i).toNat)
  case atStart => exact ⟨0, by omega, rfl, (fun j q hj => absurd hj (Nat.not_lt_zero _)), HB1.out⟩
  case round =>
    obtain ⟨k, hk, rfl, HA, HB⟩ := hrel
    obtain ⟨⟨b0, b1, b2, b3⟩, y0, y1, y2⟩ := byOn HS.out HB.out
    by_cases hlt : k < NN
    · have hk' : k < pts.length := by rw [HNN.out]; exact hlt
      obtain ⟨q, hq⟩ : ∃ q, pts[k]? = some q := ⟨pts[k], List.getElem?_eq_getElem hk'⟩
      obtain ⟨g, o, pk', ck', pv', cv', rfl, hpc⟩ := HX.out k q hq
      have hpc' := hpc.on (HBd.out _ HB.out)
      obtain ⟨c0, c1, c2, c3, hks, -⟩ := hpc'
      have HKs := hid hks
      have HQ := hid hq
      clear hks hpc hq hk'
      generalize hnk' : List.length q.ks = nk' at *
      generalize List.length q.vs = nv' at *
      clear hnk'
      obtain ⟨W1, hW1⟩ : ∃ W, W = wr := ⟨wr, rfl⟩
      subst hW1
      have hBx := (Below.refl W1.heap.size W1).alloc (Nat.le_refl _) (.cells #[.string q.sc, .slice pk' nk' ck', .int .i64 q.tm, .slice pv' nv' cv'] 34)
      have HBx : Hid (Below W.heap.size W (W1.alloc (.cells #[.string q.sc, .slice pk' nk' ck', .int .i64 q.tm, .slice pv' nv' cv'] 34))) := HB.out.trans (hBx.mono HB.out.size)
      have HKx := hid (HKs.out.on hBx)
      have HPx := hid (HRk.out.on HBx.out)
      clear hBx
      have step : sameP p q = false → ∀ (j : Nat) q', j < k + 1 → pts[j]? = some q' → sameP p q' = false := fun e j q' hj hq' => by
        by_cases ej : j = k
        · subst ej; rw [HQ.out] at hq'; cases hq'; exact e
        · exact HA.out j q' (by omega) hq'
      have HStep := hid step
      clear step
      by_cases hnm : q.sc = p.sc
      · by_cases htm : q.tm = p.tm
        · rw [htm, hnm] at HKx HPx HBx
          rw [hnm] at c0
          rw [htm] at c2
          obtain ⟨⟨d0, d1, d2, d3⟩, -⟩ := byOn HS.out HBx.out
          obtain ⟨cz, hcz⟩ : ∃ c, cmpR q.ks p.ks = c := ⟨_, rfl⟩
          have HCz := hid hcz
          by_cases hk0 : cz = 0
          · exact absurd (has_at HQ.out hnm htm ((cmpR_zero _ _).1 (hcz.trans hk0))) (by rw [HHas.out]; decide)
          · have hsame : sameP p q = false := by
              simp only [sameP, decide_eq_false_iff_not]
              exact fun hh => hk0 (hcz.symm.trans ((cmpR_zero _ _).2 hh.2.2))
            have hkb : (cz == 0) = false := by simp [hk0]
            clear hcz
            go_wp2_with (go_at_call 32; refine (rrow_is HKx.out HPx.out HCz.out).mono ?_; rintro e w2 ⟨rfl, hb2⟩; have HB2 := hid hb2; clear hb2)
            go_roundw
            case rel => exact ⟨k + 1, by omega, by go_num, HStep.out hsame, HBx.out.trans (HB2.out.mono HBx.out.size)⟩
            case measure => simp [intOf]; omega
        · have hsame : sameP p q = false := by
            simp only [sameP, decide_eq_false_iff_not]
            exact fun hh => htm hh.2.1
          have htb : (q.tm == p.tm) = false := by simp [htm]
          rw [hnm] at c0 HBx
          obtain ⟨⟨d0, d1, d2, d3⟩, -⟩ := byOn HS.out HBx.out
          go_wp2_with fail
          go_roundw
          case rel => exact ⟨k + 1, by omega, by go_num, HStep.out hsame, HBx.out⟩
          case measure => simp [intOf]; omega
      · have hsame : sameP p q = false := by
          simp only [sameP, decide_eq_false_iff_not]
          exact fun hh => hnm hh.1
        have hnb : (q.sc.toList == p.sc.toList) = false := by rw [bytes_beq]; simpa using hnm
        obtain ⟨⟨d0, d1, d2, d3⟩, -⟩ := byOn HS.out HBx.out
        go_wp2_with fail
        go_roundw
        case rel => exact ⟨k + 1, by omega, by go_num, HStep.out hsame, HBx.out⟩
        case measure => simp [intOf]; omega
    · have ek : k = NN := by omega
      subst ek
      have hge : ¬ (room ≤ (k : Int)) := by omega
      have hSr := byOn HS.out HB.out
      clear b0 b1 b2 b3
      go_wp2_with fail
      go_region_held3 (BY BX (.string p.sc) (.slice pk nk ck) (.int .i64 p.tm) (.slice pv nv cv) yb (.slice ps ns cs) (.int .i64 room) (.slice pl k cl)) (((repeat (first | (with_reducible refine byD ?_) | (with_reducible refine byA ?_ _))); (with_reducible assumption))) (fail)
      have HB2 : Hid (Below w.heap.size w wr.drew) := HBd.out _ HB.out.drew
      have hS2 : BY BX (.string p.sc) (.slice pk nk ck) (.int .i64 p.tm) (.slice pv nv cv) yb (.slice ps ns cs) (.int .i64 room) (.slice pl k cl) wr.drew := hSr
      have KB2 := hid (block_on KB.out HB.out.drew)
      have hBX := HBX.out
      clear hSr y0 y1 y2 HB
      generalize wr.drew = W2 at *
      have hba := (Below.refl W2.heap.size W2).alloc (Nat.le_refl _) (.cells #[] 40)
      have HRk2 := hid ((HRk0.out.on HB2.out).on hba)
      have HP2 : Hid (∀ k, W2.heap.size ≤ k → P k) := fun k hk => HP.out k (by have := HB2.out.size; omega)
      obtain ⟨⟨b0, b1, b2, b3⟩, -⟩ := byOn hS2 hba
      have HA2 := hid hba
      have HS2 := hid hS2
      clear hba hS2
      go_upto_region 13 with (at_builtin; refine app_any elem48 vl_len (fun x _ => vl_cells x) rfl _ _ rfl rfl (Own.made Vl.cells 11 40 W2.heap.size W2 (Nat.le_refl _)) rfl HRk2.out (by simpa using SlAt.bound HRk2.out) (by simp) ?_; intro v1 w3 hown3 hb3; rw [List.nil_append] at hown3; have HR3 := hid (own_rowT (P := P) hown3 HP2.out (SlAt.bound HRk2.out)); obtain ⟨p1, d1, rfl⟩ := own_formN hown3 HNK.out; have HB3 : Hid (Below W2.heap.size W2 w3) := HA2.out.trans hb3; have KB3 := hid (block_on KB2.out HB3.out); have z1 := block_cell KB3.out 1; have fr := RN.block_frozen KB3.out; clear hown3 hb3)
      obtain ⟨hb4, hr4⟩ := box_at (i := 1) (v := .slice p1 nk d1) (HB2.out.trans (HB3.out.mono HB2.out.size)) (by omega) KB3.out HR3.out
      have KB4 : Hid ((w3.setCell ⟨BX, 1, none⟩ (.slice p1 nk d1)).heap[BX]? = some (.cells #[.string p.sc, .slice p1 nk d1, .int .i64 p.tm, .slice pv nv cv] 34)) := by show _ = _; have := RN.set_block (i := 1) KB3.out (.slice p1 nk d1); simpa using this
      have HB4 := hid hb4
      have HR4 := hid hr4
      clear hb4 hr4 z1 fr b0 b1 b2 b3
      generalize w3.setCell ⟨BX, 1, none⟩ (.slice p1 nk d1) = W4 at *
      have hba := (Below.refl W4.heap.size W4).alloc (Nat.le_refl _) (.cells #[] 40)
      have HRv4 := hid ((HRv0.out.on HB4.out).on hba)
      have HP4 : Hid (∀ k, W4.heap.size ≤ k → P k) := fun k hk => HP.out k (by have := HB4.out.size; omega)
      have b3 := block_cell (block_on KB4.out hba) 3
      have HA4 := hid hba
      clear hba
      go_upto_region 14 with (at_builtin; refine app_any elem48 vl_len (fun x _ => vl_cells x) rfl _ _ rfl rfl (Own.made Vl.cells 11 40 W4.heap.size W4 (Nat.le_refl _)) rfl HRv4.out (by simpa using SlAt.bound HRv4.out) (by simp) ?_; intro v2 w5 hown5 hb5; rw [List.nil_append] at hown5; have HR5 := hid (own_rowT (P := P) hown5 HP4.out (SlAt.bound HRv4.out)); obtain ⟨p2, d2, rfl⟩ := own_formN hown5 HNV.out; have HB5 : Hid (Below W4.heap.size W4 w5) := HA4.out.trans hb5; have KB5 := hid (block_on KB4.out HB5.out); have z3 := block_cell KB5.out 3; have fr := RN.block_frozen KB5.out; clear hown5 hb5)
      obtain ⟨hb6, hr6⟩ := box_at (i := 3) (v := .slice p2 nv d2) (HB4.out.trans (HB5.out.mono HB4.out.size)) (by omega) KB5.out HR5.out
      have hr6k := (box_at (i := 3) (v := .slice p2 nv d2) (HB4.out.trans (HB5.out.mono HB4.out.size)) (by omega) KB5.out (row_kp (T := fun _ => False) HR4.out (Kp.of HB5.out) (fun _ _ => id))).2
      have KB6 : Hid ((w5.setCell ⟨BX, 3, none⟩ (.slice p2 nv d2)).heap[BX]? = some (.cells #[.string p.sc, .slice p1 nk d1, .int .i64 p.tm, .slice p2 nv d2] 34)) := by show _ = _; have := RN.set_block (i := 3) KB5.out (.slice p2 nv d2); simpa using this
      have HB6 := hid hb6
      have HR6 := hid hr6
      have HR6k := hid hr6k
      clear hb6 hr6 hr6k z3 fr b3
      generalize w5.setCell ⟨BX, 3, none⟩ (.slice p2 nv d2) = W6 at *
      have HRf6 := hid (HRf.out.on HB6.out)
      obtain ⟨hs, hown, hheads⟩ := HRf.out.row
      have HHd := hid hheads
      have HO6 := hid (own_kp (T := fun _ => False) hown (Kp.of HB6.out) (fun _ _ => id))
      have HHl : Hid (hs.length = k) := by show _ = _; rw [hheads.1]; exact HNN.out
      have hyb : W6.heap[yb]? = some (.cells #[.slice ps ns cs, .int .i64 room, .slice pl k cl] 50) := by have := HRf6.out.blk; rw [HVe.out] at this; exact this
      have HY := hid hyb
      have HBle : Hid (B ≤ W6.heap.size) := by show _ ≤ _; have h0 := HRf6.out.bB; have := lt_of_block HRf6.out.blk; omega
      clear hown hheads
      have q2 : W6.drew.cell? ⟨yb, 2, none⟩ = some (.slice pl k cl) := block_cell hyb 2
      have q2a : ∀ A, (W6.alloc A).cell? ⟨yb, 2, none⟩ = some (.slice pl k cl) := fun A => Lib.cell?_alloc_some A (block_cell hyb 2)
      have x0 : W6.drew.cell? ⟨BX, 0, none⟩ = some (.string p.sc) := block_cell KB6.out 0
      have x1 : W6.drew.cell? ⟨BX, 1, none⟩ = some (.slice p1 nk d1) := block_cell KB6.out 1
      have x2 : W6.drew.cell? ⟨BX, 2, none⟩ = some (.int .i64 p.tm) := block_cell KB6.out 2
      have x3 : W6.drew.cell? ⟨BX, 3, none⟩ = some (.slice p2 nv d2) := block_cell KB6.out 3
      clear hyb
      have hO := ((Below.refl W6.heap.size W6).alloc (Nat.le_refl _) (.cells #[.string p.sc, .slice p1 nk d1, .int .i64 p.tm, .slice p2 nv d2] 34)).drew
      have HO7 : Hid (Own Ph.cells 4 34 B (W6.alloc (.cells #[.string p.sc, .slice p1 nk d1, .int .i64 p.tm, .slice p2 nv d2] 34)).drew (.slice pl k cl) hs) := by show Own _ _ _ _ _ _ _; rw [← HVe.out]; exact own_kp (T := fun _ => False) HO6.out (Kp.of hO) (fun _ _ => id)
      have H17 : Hid (SlAt any Ph.cells 4 (W6.alloc (.cells #[.string p.sc, .slice p1 nk d1, .int .i64 p.tm, .slice p2 nv d2] 34)).drew (.slice (some ⟨W6.heap.size, 0, none⟩) 1 1) [⟨p.sc, .slice p1 nk d1, p.tm, .slice p2 nv d2⟩]) := ph1 (w := (W6.alloc (.cells #[.string p.sc, .slice p1 nk d1, .int .i64 p.tm, .slice p2 nv d2] 34)).drew) (h := ⟨p.sc, .slice p1 nk d1, p.tm, .slice p2 nv d2⟩) (alloc_block W6 _)
      have HB7 : Hid (B ≤ (W6.alloc (.cells #[.string p.sc, .slice p1 nk d1, .int .i64 p.tm, .slice p2 nv d2] 34)).drew.heap.size) := Nat.le_trans HBle.out hO.size
      have HOb := hid hO
      clear hO
      go_region_law (first
        | (refine RN.step_appP (N := 72) (B := B) (xs := hs) (ys := [⟨p.sc, .slice p1 nk d1, p.tm, .slice p2 nv d2⟩]) elem34 ph_len (fun x hx => by simp at hx; subst hx; exact ph_cells rfl rfl) rfl (.tmp 78) (.tmp 80) rfl (by simp [Act.eval]; try rfl) (by simp [Act.eval]; try rfl) HO7.out H17.out (by rw [HHl.out]; simp; omega) (by decide) HB7.out ?_; intro v8 W8 hown8 hg8 hat8; obtain ⟨p8, c8, rfl⟩ := own_formN (n := k + 1) hown8 (by simp [HHl.out]); have HO8 := hid hown8; have HG8 := hid hg8; have HA8 := hid hat8; have hy8 : W8.heap[yb]? = some (.cells #[.slice ps ns cs, .int .i64 room, .slice pl k cl] 50) := (Kp.grown (T := fun z => (Value.slice pl k cl).ownBlock = some z) hg8 (fun _ e => e)).blk (block_on HY.out HOb.out) (by have := HRf6.out.ne; rw [HVe.out] at this; exact this); have z8 := block_cell hy8 2; have fr := RN.block_frozen hy8; clear hown8 hg8 hat8 hy8))
      all_goals
        go_wp2_with fail
        have hfin := rf_fin (p := p) (v1 := .slice p1 nk d1) (v2 := .slice p2 nv d2) HRf.out HHd.out HB6.out HR6k.out HR6.out HOb.out HO8.out (by rw [HVe.out]; exact HG8.out) (by rw [HVe.out]; exact HA8.out)
        exact bodyPost_ret (v := .tuple #[.bool true, .int .i64 0]) (by simp [results, Tryz.results12, go_sem]) rfl ⟨rfl, hfin⟩
end Go.Proofs.YtlbjbkhcnafhcaaGreat
