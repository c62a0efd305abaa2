/-
  Print's writer: a fetch, brackets, what binds.
  Print's writer: a condition.
-/
import Derived.Test.YtmpjmimhoikknaaGreatDoorK20
namespace Go.Proofs.YtmpjmimhoikknaaGreatDoor
open Go.RowKit Go.Joins

abbrev SF2 (nb : Nat) (v1 v2 : Value) (w : World) : Prop := w.cell? ⟨nb, 3, none⟩ = some v1 ∧ w.cell? ⟨nb, 4, none⟩ = some v2
theorem sF2B {nb : Nat} {v1 v2 : Value} {w w' : World} (h : SF2 nb v1 v2 w) (hb : Below w.heap.size w w') : SF2 nb v1 v2 w' :=
  ⟨(hb.cell (p := ⟨nb, 3, none⟩) (block_lt_of_cell (h.1))).trans h.1, (hb.cell (p := ⟨nb, 4, none⟩) (block_lt_of_cell (h.2))).trans h.2⟩
theorem sF2D {nb : Nat} {v1 v2 : Value} {w : World} (h : SF2 nb v1 v2 w) : SF2 nb v1 v2 w.drew := h
theorem sF2A {nb : Nat} {v1 v2 : Value} {w : World} {x : Obj} (h : SF2 nb v1 v2 w) : SF2 nb v1 v2 (w.alloc x) := sF2B h ((Below.refl _ _).alloc (Nat.le_refl _) x)
theorem sF2K {nb : Nat} {v1 v2 : Value} {w w' : World} {T : Nat → Prop} (h : SF2 nb v1 v2 w) (hk : Kp T w w') (n0 : ¬ T nb) : SF2 nb v1 v2 w' :=
  ⟨hk.cell h.1 n0, hk.cell h.2 n0⟩
/- The tables of print and the powers of ten. -/
structure Gq (w : World) : Prop where
  p : Gp w
  t : Lib.TabBelow Tryz.prog 9 w "internal/strconv.uint64pow10" .u64 Lib.pow10Tab
theorem Gq.on {w w' : World} {b : Nat} (h : Gq w) (hb : 9 ≤ b) (hB : Below b w w') : Gq w' := ⟨h.p.on hb hB, h.t.on (hB.mono hb)⟩
theorem Gq.next {w w' : World} (h : Gq w) (hB : Below w.heap.size w w') : Gq w' := h.on h.p.g.2.1 hB
theorem Gq.tab {w : World} (h : Gq w) : VN.Tab w := h.t.here
/- Numbers and texts as a program can hold them. -/
structure NxOk (q : Nx) : Prop where
  n : VN.In64 q.np.n
  f : VN.In64 q.np.from_
  t : VN.In64 q.np.to_
  v : VN.In64 q.np.vn
  h : ∀ i, i < 8 → VN.In64 (VN.nth8 q.h0 q.h1 q.h2 q.h3 q.h4 q.h5 q.h6 q.h7 i)
  s : (q.np.vs.length : Int) ≤ 1048576
theorem itoaS {n : Int} {w : World} (h : VN.In64 n) (hG : Gq w) : Calls Tryz.prog 136 #[.int .i64 n] w fun e w' => e = .returned (.string (St (Lib.itoa n))) ∧ Below w.heap.size w w' := VN.itoa_any h.1 h.2 hG.tab
set_option maxRecDepth 100000 in
theorem textS_any {q : Nx} {w : World} (ho : NxOk q) (hG : Gq w) : Calls Tryz.prog 140 #[V q.np.vk q.np.vn (St q.np.vs) q.h0 q.h1 q.h2 q.h3 q.h4 q.h5 q.h6 q.h7] w fun e w' => e = .returned (.string (St (vtx q))) ∧ Below w.heap.size w w' := by
  cases hv : VN.validB q.np.vk q.np.vn (St q.np.vs) q.h0 q.h1 q.h2 q.h3 q.h4 q.h5 q.h6 q.h7 with
  | true =>
    have e : vtx q = VN.textV q.np.vk q.np.vn (St q.np.vs) q.h0 q.h1 q.h2 q.h3 q.h4 q.h5 q.h6 q.h7 := by unfold vtx; rw [hv]; rfl
    rw [e]; exact VN.text_valid hv ho.v ho.h hG.tab
  | false =>
    have e : vtx q = [] := by unfold vtx; rw [hv]; rfl
    rw [e]; exact VN.text_bad hv
/- The writer, the nodes and the tables. -/
structure Ws (B : Nat) (qs : List Nx) (w : World) (wb : Nat) (nv wv : Value) (ws : List (List UInt8)) : Prop where
  r : Wr B w wb nv wv ws
  q : Qx (fun b => b < B) w nv qs
  g : Gq w
  N : 9 ≤ B
theorem strs_lit (W : World) (us : List (List UInt8)) (hl : us.length ≤ 1000) {cs : Array Value} {n : Nat} (hc : cs = (us.flatMap str1).toArray) (hn : n = us.length) : SlAt (fun b => b < (W.alloc (.cells cs 9)).heap.size) str1 1 (W.alloc (.cells cs 9)) (.slice (some ⟨W.heap.size, 0, none⟩) n n) us := by
  subst hc
  subst hn
  exact (Own.sl (Own.blk (enc := str1) (k := 1) (e := 9) (B := W.heap.size) (w := W.alloc (.cells (us.flatMap str1).toArray 9)) (xs := us) (fun _ => rfl) (Nat.le_refl _) (alloc_block W _) (by unfold maxLen; omega)) (fun _ => rfl)).imp (fun _ hb => hb.2)
section
variable {B : Nat} {qs : List Nx} {w w' : World} {wb : Nat} {nv wv wv' : Value} {ws ws' us : List (List UInt8)} {nb : Nat} {q : Nx}
theorem Ws.next (h : Ws B qs w wb nv wv ws) (hw : Wr B w' wb nv wv' ws') (hk : Kp (Tq wb wv) w w') : Ws B qs w' wb nv wv' ws' :=
  ⟨hw, h.q.kp hk (fun b hb e => by have := h.r.T_ge b e; omega), h.g.on h.N (hk.below h.r.le h.r.T_ge), h.N⟩
theorem Ws.on (h : Ws B qs w wb nv wv ws) (hb : Below w.heap.size w w') : Ws B qs w' wb nv wv ws :=
  h.next (h.r.on hb) (Kp.of hb)
/- A node's box beside. -/
structure Bq (B : Nat) (qs : List Nx) (nb : Nat) (q : Nx) (w : World) (wb : Nat) (nv wv : Value) (ws : List (List UInt8)) : Prop where
  s : Ws B qs w wb nv wv ws
  b : w.heap[nb]? = some (.cells q.cells.toArray 44 (0, 0))
  n : ¬ Tq wb wv nb
theorem Bq.next (h : Bq B qs nb q w wb nv wv ws) {e : Ending} (hs : SyP B wb nv wv ws' w e w') : ∃ wv', Bq B qs nb q w' wb nv wv' ws' ∧ At w wv wv' ∧ Kp (Tq wb wv) w w' := by
  obtain ⟨-, wv', hw, ha, hk⟩ := hs
  have hlt := lt_of_block h.b
  refine ⟨wv', ⟨h.s.next hw hk, hk.blk h.b h.n, fun e => ?_⟩, ha, hk⟩
  rcases e with e | e
  · exact h.n (.inl e)
  · rcases ha nb e with e | e
    · exact h.n (.inr e)
    · omega
theorem Bq.on (h : Bq B qs nb q w wb nv wv ws) (hb : Below w.heap.size w w') : Bq B qs nb q w' wb nv wv ws := ⟨h.s.on hb, block_on h.b hb, h.n⟩
theorem Bq.box (h : Ws B qs w wb nv wv ws) : Bq B qs w.heap.size q (w.alloc (.cells q.cells.toArray 44)) wb nv wv ws :=
  ⟨h.on ((Below.refl _ _).alloc (Nat.le_refl _) _), alloc_block w _, fun e => by have := h.r.T_lt _ e; omega⟩
theorem box_below : Below w.heap.size w (w.alloc (.cells q.cells.toArray 44)) := (Below.refl _ _).alloc (Nat.le_refl _) _
theorem Bq.cell (h : Bq B qs nb q w wb nv wv ws) {j : Nat} {v : Value} (hv : q.cells[j]? = some v) : w.cell? ⟨nb, j, none⟩ = some v := by
  rw [block_cell h.b j]; simpa using hv
/- Saying a row of texts that was just built. -/
theorem Ws.say (h : Ws B qs w wb nv wv ws) (us : List (List UInt8)) (hl : us.length ≤ 1000) (hne : us ≠ []) {cs : Array Value} {n : Nat} (hc : cs = (us.flatMap str1).toArray) (hn : n = us.length) (hb : (ws.length + us.length) * 16 ≤ 140737488355328) : Calls Tryz.prog 135 #[dp wb, .slice (some ⟨w.heap.size, 0, none⟩) n n] (w.alloc (.cells cs 9)) (SyP B wb nv wv (ws ++ us) w) :=
  (say_any (us := us) (h.r.on ((Below.refl _ _).alloc (Nat.le_refl _) (.cells cs 9))) (strs_lit w us hl hc hn) hne hb).mono (fun _ _ hs => SyP.of ((Below.refl _ _).alloc (Nat.le_refl _) (.cells cs 9)) hs)
set_option maxRecDepth 100000 in
set_option maxHeartbeats 4000000 in
theorem wfetch_any (h : Ws B qs w wb nv wv ws) (ho : NxOk q) (hb : (ws.length + (fetchW q.np).length) * 16 ≤ 140737488355328) : Calls Tryz.prog 100 #[dp wb, .agg q.cells.toArray] w (SyP B wb nv wv (ws ++ fetchW q.np) w) := by
  have HO := hid ho
  have HQ := hid (Bq.box (q := q) h)
  have HB0 := hid (box_below (w := w) (q := q))
  generalize hW : w.alloc (.cells q.cells.toArray 44) = w1 at *
  have HW := hid hW
  have c1 := HQ.out.cell (j := 1) rfl
  have c3 := HQ.out.cell (j := 3) rfl
  have c4 := HQ.out.cell (j := 4) rfl
  clear h ho hW
  by_cases hft : q.np.from_ = 0 ∧ q.np.to_ = 1099511627775
  · have HF : Hid (fetchW q.np = [wFetch, q.np.s]) := by show _ = _; unfold fetchW; rw [if_pos hft]; rfl
    rw [HF.out] at hb ⊢
    have HS := hid (HQ.out.s.say [wFetch, q.np.s] (by simp) (by simp) rfl rfl hb)
    have HFt := hid hft
    clear hb hft c3 c4
    go_enter Tryz.func100, Tryz.ntmps100
    go_upto_region 1 with fail
    rw [HW.out]
    go_wp2_with (go_at_call 135; refine HS.out.mono ?_; rintro e w2 hs; have HS2 := hid hs; obtain ⟨wv2, hq2, -, -⟩ := HQ.out.next hs; have d3 := hq2.cell (j := 3) rfl; have d4 := hq2.cell (j := 4) rfl; rw [HFt.out.1] at d3; rw [HFt.out.2] at d4; obtain ⟨rfl, -⟩ := id hs; clear hs hq2)
    go_end0
    exact SyP.of HB0.out HS2.out
  · have HF : Hid (fetchW q.np = [wFetch, q.np.s] ++ [wFrom, Lib.itoa q.np.from_, wTo, Lib.itoa q.np.to_]) := by show _ = _; unfold fetchW; rw [if_neg hft]
    rw [HF.out] at hb
    rw [List.length_append] at hb
    have HBd := hid hb
    generalize hR : ws ++ fetchW q.np = R
    have HR : Hid (R = ws ++ [wFetch, q.np.s] ++ [wFrom, Lib.itoa q.np.from_, wTo, Lib.itoa q.np.to_]) := by show _ = _; rw [← hR, HF.out, List.append_assoc]
    clear hR
    have HS := hid (HQ.out.s.say [wFetch, q.np.s] (by simp) (by simp) rfl rfl (by simp at hb ⊢; omega))
    have hcs : (q.np.from_ != 0) = true ∨ ((q.np.from_ != 0) = false ∧ (q.np.to_ != 1099511627775) = true) := by
      by_cases h0 : q.np.from_ = 0
      · right; exact ⟨by simp [h0], by simp; exact fun e => hft ⟨h0, e⟩⟩
      · left; simp [h0]
    clear hb hft c3 c4
    go_enter Tryz.func100, Tryz.ntmps100
    go_upto_region 1 with fail
    rw [HW.out]
    rcases hcs with h1 | ⟨h1, h2⟩
    all_goals
      (go_upto_region 3 with (go_at_call 135; refine HS.out.mono ?_; rintro e w2 hs; have HS2 := hid hs; obtain ⟨wv2, hq2, ha2, hk2⟩ := HQ.out.next hs; have HQ2 := hid hq2; have HA2 := hid ha2; have HK2 := hid hk2; have d3 := hq2.cell (j := 3) rfl; have d4 := hq2.cell (j := 4) rfl; obtain ⟨rfl, -⟩ := id hs; clear hs hq2 ha2 hk2)
       have hS2 : SF2 w.heap.size (.int .i64 q.np.from_) (.int .i64 q.np.to_) w2 := ⟨d3, d4⟩
       clear d3 d4 HS2 HS
       have HQd := hid (HQ2.out.on (Below.refl _ _).drew)
       have M1 : Hid True := trivial
       go_region_held3 (SF2 w.heap.size (.int .i64 q.np.from_) (.int .i64 q.np.to_)) (((repeat (first | (with_reducible refine sF2D ?_) | (with_reducible refine sF2A ?_))); (with_reducible assumption)))
         (first
          | (go_at_call 136; clear M1; refine (itoaS HO.out.f HQd.out.s.g).mono ?_; rintro e w3 ⟨rfl, hb3⟩; have HB3 := hid hb3; have HQ3 := hid (HQd.out.on hb3); have hS3 := sF2B (sF2D hS2) hb3; clear hb3; have M2 : Hid True := trivial)
          | (go_at_call 136; clear M2; refine (itoaS HO.out.t HQ3.out.s.g).mono ?_; rintro e w4 ⟨rfl, hb4⟩; have HB4 := hid hb4; have HQ4 := hid (HQ3.out.on hb4); have hS4 := sF2B hS3 hb4; have HS4 := hid (HQ4.out.s.say [wFrom, Lib.itoa q.np.from_, wTo, Lib.itoa q.np.to_] (by simp) (by simp) rfl rfl (by have := HBd.out; simp at this ⊢; omega)); clear hb4)
          | (go_at_call 135; refine HS4.out.mono ?_; rintro e w5 hs; have HS5 := hid hs; obtain ⟨wv5, hq5, ha5, hk5⟩ := HQ4.out.next hs; have hS5 : SF2 w.heap.size (.int .i64 q.np.from_) (.int .i64 q.np.to_) w5 := ⟨hq5.cell (j := 3) rfl, hq5.cell (j := 4) rfl⟩; obtain ⟨rfl, -⟩ := id hs; clear hs hq5 ha5 hk5))
       all_goals
         (clear hS2 hS3 hS4
          go_wp2
          go_end0
          rw [HR.out]
          exact SyP.of HB0.out (SyP.trans HA2.out HK2.out (SyP.of (((Below.refl w2.heap.size w2).drew.trans HB3.out).trans (HB4.out.mono HB3.out.size)) HS5.out))))
/- What node does, for nodes of a number below d. -/
def NodeP (B : Nat) (qs : List Nx) (wb : Nat) (nv : Value) (d : Nat) : Prop := ∀ (i : Nat) (w : World) (wv : Value) (ws : List (List UInt8)), i < d → i < qs.length → Ws B qs w wb nv wv ws → (ws.length + (wd (qs.map xn) d i).length) * 16 ≤ 140737488355328 → Calls Tryz.prog 56 #[dp wb, .int .i64 (i : Int)] w (SyP B wb nv wv (ws ++ wd (qs.map xn) d i) w)
set_option maxRecDepth 100000 in
set_option maxHeartbeats 1000000 in
theorem wbr_any {d i : Nat} (hN : NodeP B qs wb nv d) (hi : i < d) (hq : i < qs.length) (h : Ws B qs w wb nv wv ws) (hb : (ws.length + (inB (wd (qs.map xn) d i)).length) * 16 ≤ 140737488355328) : Calls Tryz.prog 144 #[dp wb, .int .i64 (i : Int)] w (SyP B wb nv wv (ws ++ inB (wd (qs.map xn) d i)) w) := by
  generalize hX : wd (qs.map xn) d i = X at *
  have hl : (inB X).length = X.length + 2 := by simp [inB]
  generalize hR : ws ++ inB X = R
  have HR : Hid (R = ws ++ [wOpen] ++ X ++ [wShut]) := by show _ = _; rw [← hR]; simp [inB]
  rw [hl] at hb
  have HBd := hid hb
  have HS := hid (h.say [wOpen] (by simp) (by simp) rfl rfl (by simp; omega))
  have HN := hid hN
  have HI := hid hi
  have HQi := hid hq
  have HW := hid h
  have HX := hid hX
  clear h hN hb hl hi hq hR hX
  have M1 : Hid True := trivial
  go_enter Tryz.func144, Tryz.ntmps144
  go_wp2_with (first
    | (go_at_call 135; clear M1; refine HS.out.mono ?_; rintro e w2 hs; obtain ⟨rfl, wv2, hw2, ha2, hk2⟩ := hs; have HW2 := hid (HW.out.next hw2 hk2); have HA2 := hid ha2; have HK2 := hid hk2; clear hw2 ha2 hk2)
    | (go_at_call 56; refine (HN.out i w2 wv2 _ HI.out HQi.out HW2.out (by rw [HX.out]; have := HBd.out; simp; omega)).mono ?_; rw [HX.out]; rintro e w3 hs; obtain ⟨rfl, wv3, hw3, ha3, hk3⟩ := hs; have HW3 := hid (HW2.out.next hw3 hk3); have HA3 := hid (HA2.out.trans ha3 HK2.out.size); have HK3 := hid (HK2.out.next HA2.out hk3); have HS3 := hid (HW3.out.say [wShut] (by simp) (by simp) rfl rfl (by have := HBd.out; simp; omega)); clear hw3 ha3 hk3)
    | (go_at_call 135; refine HS3.out.mono ?_; rintro e w4 hs; have HS4 := hid hs; obtain ⟨rfl, -⟩ := id hs; clear hs))
  go_end0
  rw [HR.out]
  exact SyP.trans HA3.out HK3.out HS4.out
theorem kindAt_of {i : Nat} (hq : qs[i]? = some q) : kindAt (qs.map xn) i = q.np.kind := by
  unfold kindAt; rw [List.getElem?_map, hq]; rfl
set_option maxRecDepth 100000 in
set_option maxHeartbeats 1000000 in
theorem wbound_any {d i : Nat} {least : Int} (hN : NodeP B qs wb nv d) (hi : i < d) (hq : i < qs.length) (h : Ws B qs w wb nv wv ws) (hb : (ws.length + (bdW (qs.map xn) (wd (qs.map xn) d) i least).length) * 16 ≤ 140737488355328) : Calls Tryz.prog 137 #[dp wb, .int .i64 (i : Int), .int .i64 least] w (SyP B wb nv wv (ws ++ bdW (qs.map xn) (wd (qs.map xn) d) i least) w) := by
  obtain ⟨q, hqi⟩ : ∃ q, qs[i]? = some q := ⟨_, List.getElem?_eq_getElem hq⟩
  have hka := kindAt_of hqi
  obtain ⟨p, cap, hnv, hc1, hc2⟩ := h.q.sl.form
  unfold maxLen at hc2
  have hsl := h.q.sl
  rw [hnv] at hsl
  obtain ⟨g, og, rfl, hgB, hcl⟩ := hsl.at (j := i) hqi
  have c0 : w.cell? ⟨g, og + i * 19, none⟩ = some (.int .i64 q.np.kind) := hcl 0 _ rfl
  have cb := block_cell h.r.blk
  have i0 : (0 : Int) ≤ i := by omega
  have i1 : (i : Int) < qs.length := by omega
  have HBi := hid (binds_any q.np.kind w)
  have HW := hid h
  have HN := hid hN
  have HI := hid hi
  have HQi := hid hq
  subst hnv
  clear h hN hi hqi hcl hsl hq
  by_cases hlt : bindsN q.np.kind < least
  · have HR : Hid (bdW (qs.map xn) (wd (qs.map xn) d) i least = inB (wd (qs.map xn) d i)) := by show _ = _; unfold bdW; rw [hka, if_pos hlt]
    rw [HR.out] at hb ⊢
    have HX := hid (wbr_any HN.out HI.out HQi.out HW.out hb)
    generalize bindsN q.np.kind = bn at *
    generalize q.np.kind = kd at *
    clear hb HN hka
    go_enter Tryz.func137, Tryz.ntmps137
    go_wp2_with (first
      | (go_at_call 138; refine HBi.out.mono ?_; rintro e w2 ⟨rfl, rfl⟩)
      | (go_at_call 144; refine HX.out.mono ?_; rintro e w3 hs; have HS4 := hid hs; obtain ⟨rfl, -⟩ := id hs; clear hs))
    go_end0
    exact HS4.out
  · have HR : Hid (bdW (qs.map xn) (wd (qs.map xn) d) i least = wd (qs.map xn) d i) := by show _ = _; unfold bdW; rw [hka, if_neg hlt]
    rw [HR.out] at hb ⊢
    have HX := hid (HN.out i w wv ws HI.out HQi.out HW.out hb)
    generalize bindsN q.np.kind = bn at *
    generalize q.np.kind = kd at *
    clear hb HN hka
    go_enter Tryz.func137, Tryz.ntmps137
    go_wp2_with (first
      | (go_at_call 138; refine HBi.out.mono ?_; rintro e w2 ⟨rfl, rfl⟩)
      | (go_at_call 56; refine HX.out.mono ?_; rintro e w3 hs; have HS4 := hid hs; obtain ⟨rfl, -⟩ := id hs; clear hs))
    go_end0
    exact HS4.out
end
end Go.Proofs.YtmpjmimhoikknaaGreatDoor
namespace Go.Proofs.YtmpjmimhoikknaaGreatDoor
open Go.RowKit Go.Joins

abbrev SC2 (nb gl ol : Nat) (v1 v2 v3 v4 : Value) (w : World) : Prop := w.cell? ⟨nb, 0, none⟩ = some v1 ∧ w.cell? ⟨nb, 16, none⟩ = some v2 ∧ w.cell? ⟨gl, ol, none⟩ = some v3 ∧ w.cell? ⟨gl, ol + 1, none⟩ = some v4
theorem sC2B {nb gl ol : Nat} {v1 v2 v3 v4 : Value} {w w' : World} (h : SC2 nb gl ol v1 v2 v3 v4 w) (hb : Below w.heap.size w w') : SC2 nb gl ol v1 v2 v3 v4 w' :=
  ⟨(hb.cell (p := ⟨nb, 0, none⟩) (block_lt_of_cell (h.1))).trans h.1, (hb.cell (p := ⟨nb, 16, none⟩) (block_lt_of_cell (h.2.1))).trans h.2.1, (hb.cell (p := ⟨gl, ol, none⟩) (block_lt_of_cell (h.2.2.1))).trans h.2.2.1, (hb.cell (p := ⟨gl, ol + 1, none⟩) (block_lt_of_cell (h.2.2.2))).trans h.2.2.2⟩
theorem sC2D {nb gl ol : Nat} {v1 v2 v3 v4 : Value} {w : World} (h : SC2 nb gl ol v1 v2 v3 v4 w) : SC2 nb gl ol v1 v2 v3 v4 w.drew := h
theorem sC2A {nb gl ol : Nat} {v1 v2 v3 v4 : Value} {w : World} {x : Obj} (h : SC2 nb gl ol v1 v2 v3 v4 w) : SC2 nb gl ol v1 v2 v3 v4 (w.alloc x) := sC2B h ((Below.refl _ _).alloc (Nat.le_refl _) x)
theorem sC2K {nb gl ol : Nat} {v1 v2 v3 v4 : Value} {w w' : World} {T : Nat → Prop} (h : SC2 nb gl ol v1 v2 v3 v4 w) (hk : Kp T w w') (n0 : ¬ T nb) (n1 : ¬ T gl) : SC2 nb gl ol v1 v2 v3 v4 w' :=
  ⟨hk.cell h.1 n0, hk.cell h.2.1 n0, hk.cell h.2.2.1 n1, hk.cell h.2.2.2 n1⟩
abbrev SC1 (nb gl ol : Nat) (v1 v2 v3 : Value) (w : World) : Prop := w.cell? ⟨nb, 0, none⟩ = some v1 ∧ w.cell? ⟨nb, 16, none⟩ = some v2 ∧ w.cell? ⟨gl, ol, none⟩ = some v3
theorem sC1B {nb gl ol : Nat} {v1 v2 v3 : Value} {w w' : World} (h : SC1 nb gl ol v1 v2 v3 w) (hb : Below w.heap.size w w') : SC1 nb gl ol v1 v2 v3 w' :=
  ⟨(hb.cell (p := ⟨nb, 0, none⟩) (block_lt_of_cell (h.1))).trans h.1, (hb.cell (p := ⟨nb, 16, none⟩) (block_lt_of_cell (h.2.1))).trans h.2.1, (hb.cell (p := ⟨gl, ol, none⟩) (block_lt_of_cell (h.2.2))).trans h.2.2⟩
theorem sC1D {nb gl ol : Nat} {v1 v2 v3 : Value} {w : World} (h : SC1 nb gl ol v1 v2 v3 w) : SC1 nb gl ol v1 v2 v3 w.drew := h
theorem sC1A {nb gl ol : Nat} {v1 v2 v3 : Value} {w : World} {x : Obj} (h : SC1 nb gl ol v1 v2 v3 w) : SC1 nb gl ol v1 v2 v3 (w.alloc x) := sC1B h ((Below.refl _ _).alloc (Nat.le_refl _) x)
theorem sC1K {nb gl ol : Nat} {v1 v2 v3 : Value} {w w' : World} {T : Nat → Prop} (h : SC1 nb gl ol v1 v2 v3 w) (hk : Kp T w w') (n0 : ¬ T nb) (n1 : ¬ T gl) : SC1 nb gl ol v1 v2 v3 w' :=
  ⟨hk.cell h.1 n0, hk.cell h.2.1 n0, hk.cell h.2.2 n1⟩
abbrev SCv (nb : Nat) (v1 v2 v3 v4 v5 v6 v7 v8 v9 v10 v11 v12 v13 : Value) (w : World) : Prop := w.cell? ⟨nb, 1, none⟩ = some v1 ∧ w.cell? ⟨nb, 2, none⟩ = some v2 ∧ w.cell? ⟨nb, 5, none⟩ = some v3 ∧ w.cell? ⟨nb, 6, none⟩ = some v4 ∧ w.cell? ⟨nb, 7, none⟩ = some v5 ∧ w.cell? ⟨nb, 8, none⟩ = some v6 ∧ w.cell? ⟨nb, 9, none⟩ = some v7 ∧ w.cell? ⟨nb, 10, none⟩ = some v8 ∧ w.cell? ⟨nb, 11, none⟩ = some v9 ∧ w.cell? ⟨nb, 12, none⟩ = some v10 ∧ w.cell? ⟨nb, 13, none⟩ = some v11 ∧ w.cell? ⟨nb, 14, none⟩ = some v12 ∧ w.cell? ⟨nb, 15, none⟩ = some v13
theorem sCvB {nb : Nat} {v1 v2 v3 v4 v5 v6 v7 v8 v9 v10 v11 v12 v13 : Value} {w w' : World} (h : SCv nb v1 v2 v3 v4 v5 v6 v7 v8 v9 v10 v11 v12 v13 w) (hb : Below w.heap.size w w') : SCv nb v1 v2 v3 v4 v5 v6 v7 v8 v9 v10 v11 v12 v13 w' :=
  ⟨(hb.cell (p := ⟨nb, 1, none⟩) (block_lt_of_cell (h.1))).trans h.1, (hb.cell (p := ⟨nb, 2, none⟩) (block_lt_of_cell (h.2.1))).trans h.2.1, (hb.cell (p := ⟨nb, 5, none⟩) (block_lt_of_cell (h.2.2.1))).trans h.2.2.1, (hb.cell (p := ⟨nb, 6, none⟩) (block_lt_of_cell (h.2.2.2.1))).trans h.2.2.2.1, (hb.cell (p := ⟨nb, 7, none⟩) (block_lt_of_cell (h.2.2.2.2.1))).trans h.2.2.2.2.1, (hb.cell (p := ⟨nb, 8, none⟩) (block_lt_of_cell (h.2.2.2.2.2.1))).trans h.2.2.2.2.2.1, (hb.cell (p := ⟨nb, 9, none⟩) (block_lt_of_cell (h.2.2.2.2.2.2.1))).trans h.2.2.2.2.2.2.1, (hb.cell (p := ⟨nb, 10, none⟩) (block_lt_of_cell (h.2.2.2.2.2.2.2.1))).trans h.2.2.2.2.2.2.2.1, (hb.cell (p := ⟨nb, 11, none⟩) (block_lt_of_cell (h.2.2.2.2.2.2.2.2.1))).trans h.2.2.2.2.2.2.2.2.1, (hb.cell (p := ⟨nb, 12, none⟩) (block_lt_of_cell (h.2.2.2.2.2.2.2.2.2.1))).trans h.2.2.2.2.2.2.2.2.2.1, (hb.cell (p := ⟨nb, 13, none⟩) (block_lt_of_cell (h.2.2.2.2.2.2.2.2.2.2.1))).trans h.2.2.2.2.2.2.2.2.2.2.1, (hb.cell (p := ⟨nb, 14, none⟩) (block_lt_of_cell (h.2.2.2.2.2.2.2.2.2.2.2.1))).trans h.2.2.2.2.2.2.2.2.2.2.2.1, (hb.cell (p := ⟨nb, 15, none⟩) (block_lt_of_cell (h.2.2.2.2.2.2.2.2.2.2.2.2))).trans h.2.2.2.2.2.2.2.2.2.2.2.2⟩
theorem sCvD {nb : Nat} {v1 v2 v3 v4 v5 v6 v7 v8 v9 v10 v11 v12 v13 : Value} {w : World} (h : SCv nb v1 v2 v3 v4 v5 v6 v7 v8 v9 v10 v11 v12 v13 w) : SCv nb v1 v2 v3 v4 v5 v6 v7 v8 v9 v10 v11 v12 v13 w.drew := h
theorem sCvA {nb : Nat} {v1 v2 v3 v4 v5 v6 v7 v8 v9 v10 v11 v12 v13 : Value} {w : World} {x : Obj} (h : SCv nb v1 v2 v3 v4 v5 v6 v7 v8 v9 v10 v11 v12 v13 w) : SCv nb v1 v2 v3 v4 v5 v6 v7 v8 v9 v10 v11 v12 v13 (w.alloc x) := sCvB h ((Below.refl _ _).alloc (Nat.le_refl _) x)
theorem sCvK {nb : Nat} {v1 v2 v3 v4 v5 v6 v7 v8 v9 v10 v11 v12 v13 : Value} {w w' : World} {T : Nat → Prop} (h : SCv nb v1 v2 v3 v4 v5 v6 v7 v8 v9 v10 v11 v12 v13 w) (hk : Kp T w w') (n0 : ¬ T nb) : SCv nb v1 v2 v3 v4 v5 v6 v7 v8 v9 v10 v11 v12 v13 w' :=
  ⟨hk.cell h.1 n0, hk.cell h.2.1 n0, hk.cell h.2.2.1 n0, hk.cell h.2.2.2.1 n0, hk.cell h.2.2.2.2.1 n0, hk.cell h.2.2.2.2.2.1 n0, hk.cell h.2.2.2.2.2.2.1 n0, hk.cell h.2.2.2.2.2.2.2.1 n0, hk.cell h.2.2.2.2.2.2.2.2.1 n0, hk.cell h.2.2.2.2.2.2.2.2.2.1 n0, hk.cell h.2.2.2.2.2.2.2.2.2.2.1 n0, hk.cell h.2.2.2.2.2.2.2.2.2.2.2.1 n0, hk.cell h.2.2.2.2.2.2.2.2.2.2.2.2 n0⟩
abbrev SCh (nb : Nat) (v1 v2 : Value) (w : World) : Prop := w.cell? ⟨nb, 1, none⟩ = some v1 ∧ w.cell? ⟨nb, 7, none⟩ = some v2
theorem sChB {nb : Nat} {v1 v2 : Value} {w w' : World} (h : SCh nb v1 v2 w) (hb : Below w.heap.size w w') : SCh nb v1 v2 w' :=
  ⟨(hb.cell (p := ⟨nb, 1, none⟩) (block_lt_of_cell (h.1))).trans h.1, (hb.cell (p := ⟨nb, 7, none⟩) (block_lt_of_cell (h.2))).trans h.2⟩
theorem sChD {nb : Nat} {v1 v2 : Value} {w : World} (h : SCh nb v1 v2 w) : SCh nb v1 v2 w.drew := h
theorem sChA {nb : Nat} {v1 v2 : Value} {w : World} {x : Obj} (h : SCh nb v1 v2 w) : SCh nb v1 v2 (w.alloc x) := sChB h ((Below.refl _ _).alloc (Nat.le_refl _) x)
theorem sChK {nb : Nat} {v1 v2 : Value} {w w' : World} {T : Nat → Prop} (h : SCh nb v1 v2 w) (hk : Kp T w w') (n0 : ¬ T nb) : SCh nb v1 v2 w' :=
  ⟨hk.cell h.1 n0, hk.cell h.2 n0⟩
section
variable {B : Nat} {qs : List Nx} {w w' : World} {wb : Nat} {nv wv wv' : Value} {ws ws' us : List (List UInt8)} {nb : Nat} {q : Nx}
theorem Bq.sc2 (h : Bq B qs nb q w wb nv wv ws) (hm : q ∈ qs) {a b : Int} (hl : q.np.l = [a, b]) {gl ol cl : Nat} (hv : q.lv = .slice (some ⟨gl, ol, none⟩) 2 cl) : SC2 nb gl ol (.int .i64 q.np.kind) (.slice (some ⟨gl, ol, none⟩) 2 cl) (.int .i64 a) (.int .i64 b) w := by
  have h1 := (h.s.q.each q hm).l
  rw [hv, hl] at h1
  obtain ⟨b0, o0, hp, -, h2⟩ := h1.at (j := 0) rfl
  cases hp
  obtain ⟨b0, o0, hp, -, h3⟩ := h1.at (j := 1) rfl
  cases hp
  exact ⟨h.cell (j := 0) rfl, (h.cell (j := 16) rfl).trans (congrArg some hv), h2 0 _ rfl, h3 0 _ rfl⟩
theorem Bq.sc1 (h : Bq B qs nb q w wb nv wv ws) (hm : q ∈ qs) {a : Int} (hl : q.np.l = [a]) {gl ol cl : Nat} (hv : q.lv = .slice (some ⟨gl, ol, none⟩) 1 cl) : SC1 nb gl ol (.int .i64 q.np.kind) (.slice (some ⟨gl, ol, none⟩) 1 cl) (.int .i64 a) w := by
  have h1 := (h.s.q.each q hm).l
  rw [hv, hl] at h1
  obtain ⟨b0, o0, hp, -, h2⟩ := h1.at (j := 0) rfl
  cases hp
  exact ⟨h.cell (j := 0) rfl, (h.cell (j := 16) rfl).trans (congrArg some hv), h2 0 _ rfl⟩
theorem Bq.scv (h : Bq B qs nb q w wb nv wv ws) : SCv nb (.string (St q.np.s)) (.int .i64 q.np.n) (.int .i64 q.np.vk) (.int .i64 q.np.vn) (.string (St q.np.vs)) (.int .i64 q.h0) (.int .i64 q.h1) (.int .i64 q.h2) (.int .i64 q.h3) (.int .i64 q.h4) (.int .i64 q.h5) (.int .i64 q.h6) (.int .i64 q.h7) w :=
  ⟨h.cell (j := 1) rfl, h.cell (j := 2) rfl, h.cell (j := 5) rfl, h.cell (j := 6) rfl, h.cell (j := 7) rfl, h.cell (j := 8) rfl, h.cell (j := 9) rfl, h.cell (j := 10) rfl, h.cell (j := 11) rfl, h.cell (j := 12) rfl, h.cell (j := 13) rfl, h.cell (j := 14) rfl, h.cell (j := 15) rfl⟩
theorem Bq.sch (h : Bq B qs nb q w wb nv wv ws) : SCh nb (.string (St q.np.s)) (.string (St q.np.vs)) w := ⟨h.cell (j := 1) rfl, h.cell (j := 7) rfl⟩
theorem Ws.lv (h : Ws B qs w wb nv wv ws) (hm : q ∈ qs) (hl : 0 < q.np.l.length) : ∃ gl ol cl, q.lv = .slice (some ⟨gl, ol, none⟩) q.np.l.length cl ∧ (q.np.l.length : Int) ≤ cl := by
  have h1 := (h.q.each q hm).l
  obtain ⟨p, cl, hv, hc, -⟩ := h1.form
  rw [hv] at h1
  obtain ⟨g, o, hp, -, -⟩ := h1.at (j := 0) (List.getElem?_eq_getElem hl)
  exact ⟨g, o, cl, by rw [hv, hp], by omega⟩
set_option maxRecDepth 100000 in
set_option maxHeartbeats 4000000 in
theorem wcond_11 {d a b : Nat} (hN : NodeP B qs wb nv d) (ha : a < d ∧ a < qs.length) (hb' : b < d ∧ b < qs.length) (h : Ws B qs w wb nv wv ws) (hm : q ∈ qs) (hk : q.np.kind = 11) (hl : q.np.l = [(a : Int), (b : Int)]) (hb : (ws.length + (condX (qs.map xn) (wd (qs.map xn) d) q.np (vtx q)).length) * 16 ≤ 140737488355328) : Calls Tryz.prog 101 #[dp wb, .agg q.cells.toArray] w (SyP B wb nv wv (ws ++ condX (qs.map xn) (wd (qs.map xn) d) q.np (vtx q)) w) := by
  have e0 : condX (qs.map xn) (wd (qs.map xn) d) q.np (vtx q) = bdW (qs.map xn) (wd (qs.map xn) d) a 2 ++ [kindL.getD 11 []] ++ bdW (qs.map xn) (wd (qs.map xn) d) b 3 := by
    unfold condX lAt
    rw [if_pos (by rw [hk]; decide), hk, hl]; rfl
  rw [e0] at hb
  generalize hR : ws ++ condX (qs.map xn) (wd (qs.map xn) d) q.np (vtx q) = R
  have HR : Hid (R = ws ++ bdW (qs.map xn) (wd (qs.map xn) d) a 2 ++ [kindL.getD 11 []] ++ bdW (qs.map xn) (wd (qs.map xn) d) b 3) := by show _ = _; rw [← hR, e0]; simp
  simp only [List.length_append, List.length_cons, List.length_nil] at hb
  obtain ⟨gl, ol, cl, hlv, hcl⟩ := h.lv hm (by rw [hl]; simp)
  rw [hl] at hlv hcl
  have hcl2 : (2 : Int) ≤ cl := hcl
  have hlv2 : q.lv = .slice (some ⟨gl, ol, none⟩) 2 cl := hlv
  have HBd := hid hb
  have HN := hid hN
  have HLa := hid ha
  have HLb := hid hb'
  have HM := hid hm
  have HL := hid hl
  have HLv := hid hlv2
  have HK := hid hk
  have HQ := hid (Bq.box (q := q) h)
  have HB0 := hid (box_below (w := w) (q := q))
  generalize hW : w.alloc (.cells q.cells.toArray 44) = w1 at *
  have HW := hid hW
  have hS1 := HQ.out.sc2 HM.out HL.out HLv.out
  rw [hk] at hS1
  have c0 := hS1.1
  have HQd := hid (HQ.out.on (Below.refl _ _).drew)
  have HSf : Hid (∀ W wv' ws', Bq B qs w.heap.size q W wb nv wv' ws' → SC2 w.heap.size gl ol (.int .i64 11) (.slice (some ⟨gl, ol, none⟩) 2 cl) (.int .i64 (a : Int)) (.int .i64 (b : Int)) W) := fun W wv' ws' hB => by have h9 := hB.sc2 HM.out HL.out HLv.out; rwa [HK.out] at h9
  clear h hN ha hb' hb hm hl hlv hlv2 hcl hk hR e0 hW
  go_enter Tryz.func101, Tryz.ntmps101
  go_upto_region 1 with fail
  rw [HW.out]
  go_upto_region 4 with fail
  clear c0
  go_region_held3 (SC2 w.heap.size gl ol (.int .i64 11) (.slice (some ⟨gl, ol, none⟩) 2 cl) (.int .i64 (a : Int)) (.int .i64 (b : Int))) (((repeat (first | (with_reducible refine sC2D ?_) | (with_reducible refine sC2A ?_))); (with_reducible assumption)))
    (first
      | (go_at_call 138; refine (show Calls Tryz.prog 138 #[.int .i64 11] w1.drew (fun e w' => e = .returned (.int .i64 2) ∧ w' = w1.drew) from binds_any 11 w1.drew).mono ?_; rintro e w4 ⟨rfl, rfl⟩)
      | (go_at_call 137; refine (wbound_any HN.out HLa.out.1 HLa.out.2 HQd.out.s (by have := HBd.out; omega)).mono ?_; rintro e w2 hs; obtain ⟨wv2, hq2, ha2, hk2⟩ := HQd.out.next hs; have HQ2 := hid hq2; have HA2 := hid ha2; have HK2 := hid hk2; have hS2 := HSf.out _ _ _ hq2; obtain ⟨rfl, -⟩ := id hs; clear hs hq2 ha2 hk2))
  all_goals
    (clear hS1
     have d0 := hS2.1
     have dk := HQ2.out.s.g.p.kind 11 (by decide)
     have HS2 := hid (HQ2.out.s.say [kindL.getD 11 []] (by simp) (by simp) rfl rfl (by have := HBd.out; simp; omega))
     generalize kindL.getD 11 [] = kw at *
     go_upto_region 6 with (go_at_call 135; refine HS2.out.mono ?_; rintro e w3 hs; obtain ⟨wv3, hq3, ha3, hk3⟩ := HQ2.out.next hs; have HQ3 := hid hq3; have HQ3d := hid (hq3.on (Below.refl _ _).drew); have HA3 := hid (HA2.out.trans ha3 HK2.out.size); have HK3 := hid (HK2.out.next HA2.out hk3); have hS3 := HSf.out _ _ _ hq3; obtain ⟨rfl, -⟩ := id hs; clear hs hq3 ha3 hk3)
     clear d0 dk hS2 HS2
     go_region_held3 (SC2 w.heap.size gl ol (.int .i64 11) (.slice (some ⟨gl, ol, none⟩) 2 cl) (.int .i64 (a : Int)) (.int .i64 (b : Int))) (((repeat (first | (with_reducible refine sC2D ?_) | (with_reducible refine sC2A ?_))); (with_reducible assumption)))
       (first
         | (go_at_call 138; refine (show Calls Tryz.prog 138 #[.int .i64 11] w3.drew (fun e w' => e = .returned (.int .i64 2) ∧ w' = w3.drew) from binds_any 11 w3.drew).mono ?_; rintro e w4 ⟨rfl, rfl⟩)
         | (go_at_call 137; rw [show IntKind.i64.wrap 3 = 3 from rfl]; refine (wbound_any HN.out HLb.out.1 HLb.out.2 HQ3d.out.s (by have := HBd.out; simp only [List.length_append, List.length_cons, List.length_nil]; omega)).mono ?_; rintro e w5 hs; have HS5 := hid hs; obtain ⟨wv5, hq5, -, -⟩ := HQ3d.out.next hs; have hS5 := HSf.out _ _ _ hq5; obtain ⟨rfl, -⟩ := id hs; clear hs hq5))
     all_goals
       (clear hS3
        go_wp2
        go_end0
        rw [HR.out]
        exact SyP.of HB0.out (SyP.of (Below.refl _ _).drew (SyP.trans HA3.out HK3.out (SyP.of (Below.refl _ _).drew HS5.out)))))
set_option maxRecDepth 100000 in
set_option maxHeartbeats 4000000 in
theorem wcond_12 {d a b : Nat} (hN : NodeP B qs wb nv d) (ha : a < d ∧ a < qs.length) (hb' : b < d ∧ b < qs.length) (h : Ws B qs w wb nv wv ws) (hm : q ∈ qs) (hk : q.np.kind = 12) (hl : q.np.l = [(a : Int), (b : Int)]) (hb : (ws.length + (condX (qs.map xn) (wd (qs.map xn) d) q.np (vtx q)).length) * 16 ≤ 140737488355328) : Calls Tryz.prog 101 #[dp wb, .agg q.cells.toArray] w (SyP B wb nv wv (ws ++ condX (qs.map xn) (wd (qs.map xn) d) q.np (vtx q)) w) := by
  have e0 : condX (qs.map xn) (wd (qs.map xn) d) q.np (vtx q) = bdW (qs.map xn) (wd (qs.map xn) d) a 1 ++ [kindL.getD 12 []] ++ bdW (qs.map xn) (wd (qs.map xn) d) b 2 := by
    unfold condX lAt
    rw [if_pos (by rw [hk]; decide), hk, hl]; rfl
  rw [e0] at hb
  generalize hR : ws ++ condX (qs.map xn) (wd (qs.map xn) d) q.np (vtx q) = R
  have HR : Hid (R = ws ++ bdW (qs.map xn) (wd (qs.map xn) d) a 1 ++ [kindL.getD 12 []] ++ bdW (qs.map xn) (wd (qs.map xn) d) b 2) := by show _ = _; rw [← hR, e0]; simp
  simp only [List.length_append, List.length_cons, List.length_nil] at hb
  obtain ⟨gl, ol, cl, hlv, hcl⟩ := h.lv hm (by rw [hl]; simp)
  rw [hl] at hlv hcl
  have hcl2 : (2 : Int) ≤ cl := hcl
  have hlv2 : q.lv = .slice (some ⟨gl, ol, none⟩) 2 cl := hlv
  have HBd := hid hb
  have HN := hid hN
  have HLa := hid ha
  have HLb := hid hb'
  have HM := hid hm
  have HL := hid hl
  have HLv := hid hlv2
  have HK := hid hk
  have HQ := hid (Bq.box (q := q) h)
  have HB0 := hid (box_below (w := w) (q := q))
  generalize hW : w.alloc (.cells q.cells.toArray 44) = w1 at *
  have HW := hid hW
  have hS1 := HQ.out.sc2 HM.out HL.out HLv.out
  rw [hk] at hS1
  have c0 := hS1.1
  have HQd := hid (HQ.out.on (Below.refl _ _).drew)
  have HSf : Hid (∀ W wv' ws', Bq B qs w.heap.size q W wb nv wv' ws' → SC2 w.heap.size gl ol (.int .i64 12) (.slice (some ⟨gl, ol, none⟩) 2 cl) (.int .i64 (a : Int)) (.int .i64 (b : Int)) W) := fun W wv' ws' hB => by have h9 := hB.sc2 HM.out HL.out HLv.out; rwa [HK.out] at h9
  clear h hN ha hb' hb hm hl hlv hlv2 hcl hk hR e0 hW
  go_enter Tryz.func101, Tryz.ntmps101
  go_upto_region 1 with fail
  rw [HW.out]
  go_upto_region 4 with fail
  clear c0
  go_region_held3 (SC2 w.heap.size gl ol (.int .i64 12) (.slice (some ⟨gl, ol, none⟩) 2 cl) (.int .i64 (a : Int)) (.int .i64 (b : Int))) (((repeat (first | (with_reducible refine sC2D ?_) | (with_reducible refine sC2A ?_))); (with_reducible assumption)))
    (first
      | (go_at_call 138; refine (show Calls Tryz.prog 138 #[.int .i64 12] w1.drew (fun e w' => e = .returned (.int .i64 1) ∧ w' = w1.drew) from binds_any 12 w1.drew).mono ?_; rintro e w4 ⟨rfl, rfl⟩)
      | (go_at_call 137; refine (wbound_any HN.out HLa.out.1 HLa.out.2 HQd.out.s (by have := HBd.out; omega)).mono ?_; rintro e w2 hs; obtain ⟨wv2, hq2, ha2, hk2⟩ := HQd.out.next hs; have HQ2 := hid hq2; have HA2 := hid ha2; have HK2 := hid hk2; have hS2 := HSf.out _ _ _ hq2; obtain ⟨rfl, -⟩ := id hs; clear hs hq2 ha2 hk2))
  all_goals
    (clear hS1
     have d0 := hS2.1
     have dk := HQ2.out.s.g.p.kind 12 (by decide)
     have HS2 := hid (HQ2.out.s.say [kindL.getD 12 []] (by simp) (by simp) rfl rfl (by have := HBd.out; simp; omega))
     generalize kindL.getD 12 [] = kw at *
     go_upto_region 6 with (go_at_call 135; refine HS2.out.mono ?_; rintro e w3 hs; obtain ⟨wv3, hq3, ha3, hk3⟩ := HQ2.out.next hs; have HQ3 := hid hq3; have HQ3d := hid (hq3.on (Below.refl _ _).drew); have HA3 := hid (HA2.out.trans ha3 HK2.out.size); have HK3 := hid (HK2.out.next HA2.out hk3); have hS3 := HSf.out _ _ _ hq3; obtain ⟨rfl, -⟩ := id hs; clear hs hq3 ha3 hk3)
     clear d0 dk hS2 HS2
     go_region_held3 (SC2 w.heap.size gl ol (.int .i64 12) (.slice (some ⟨gl, ol, none⟩) 2 cl) (.int .i64 (a : Int)) (.int .i64 (b : Int))) (((repeat (first | (with_reducible refine sC2D ?_) | (with_reducible refine sC2A ?_))); (with_reducible assumption)))
       (first
         | (go_at_call 138; refine (show Calls Tryz.prog 138 #[.int .i64 12] w3.drew (fun e w' => e = .returned (.int .i64 1) ∧ w' = w3.drew) from binds_any 12 w3.drew).mono ?_; rintro e w4 ⟨rfl, rfl⟩)
         | (go_at_call 137; rw [show IntKind.i64.wrap 2 = 2 from rfl]; refine (wbound_any HN.out HLb.out.1 HLb.out.2 HQ3d.out.s (by have := HBd.out; simp only [List.length_append, List.length_cons, List.length_nil]; omega)).mono ?_; rintro e w5 hs; have HS5 := hid hs; obtain ⟨wv5, hq5, -, -⟩ := HQ3d.out.next hs; have hS5 := HSf.out _ _ _ hq5; obtain ⟨rfl, -⟩ := id hs; clear hs hq5))
     all_goals
       (clear hS3
        go_wp2
        go_end0
        rw [HR.out]
        exact SyP.of HB0.out (SyP.of (Below.refl _ _).drew (SyP.trans HA3.out HK3.out (SyP.of (Below.refl _ _).drew HS5.out)))))
set_option maxRecDepth 100000 in
set_option maxHeartbeats 4000000 in
theorem wcond_13 {d a : Nat} (hN : NodeP B qs wb nv d) (ha : a < d ∧ a < qs.length) (h : Ws B qs w wb nv wv ws) (hm : q ∈ qs) (hk : q.np.kind = 13) (hl : q.np.l = [(a : Int)]) (hb : (ws.length + (condX (qs.map xn) (wd (qs.map xn) d) q.np (vtx q)).length) * 16 ≤ 140737488355328) : Calls Tryz.prog 101 #[dp wb, .agg q.cells.toArray] w (SyP B wb nv wv (ws ++ condX (qs.map xn) (wd (qs.map xn) d) q.np (vtx q)) w) := by
  have e0 : condX (qs.map xn) (wd (qs.map xn) d) q.np (vtx q) = [wNot] ++ bdW (qs.map xn) (wd (qs.map xn) d) a 3 := by
    unfold condX lAt
    rw [if_neg (by rw [hk]; decide), if_pos hk, hl]; rfl
  rw [e0] at hb
  generalize hR : ws ++ condX (qs.map xn) (wd (qs.map xn) d) q.np (vtx q) = R
  have HR : Hid (R = ws ++ [wNot] ++ bdW (qs.map xn) (wd (qs.map xn) d) a 3) := by show _ = _; rw [← hR, e0]; simp
  simp only [List.length_append, List.length_cons, List.length_nil] at hb
  obtain ⟨gl, ol, cl, hlv, hcl⟩ := h.lv hm (by rw [hl]; simp)
  rw [hl] at hlv hcl
  have hcl2 : (1 : Int) ≤ cl := hcl
  have hlv2 : q.lv = .slice (some ⟨gl, ol, none⟩) 1 cl := hlv
  have HBd := hid hb
  have HN := hid hN
  have HLa := hid ha
  have HM := hid hm
  have HL := hid hl
  have HLv := hid hlv2
  have HK := hid hk
  have HQ := hid (Bq.box (q := q) h)
  have HB0 := hid (box_below (w := w) (q := q))
  generalize hW : w.alloc (.cells q.cells.toArray 44) = w1 at *
  have HW := hid hW
  have c0 := HQ.out.cell (j := 0) rfl
  rw [hk] at c0
  have HS := hid (HQ.out.s.say [wNot] (by simp) (by simp) rfl rfl (by simp; omega))
  have HSf : Hid (∀ W wv' ws', Bq B qs w.heap.size q W wb nv wv' ws' → SC1 w.heap.size gl ol (.int .i64 13) (.slice (some ⟨gl, ol, none⟩) 1 cl) (.int .i64 (a : Int)) W) := fun W wv' ws' hB => by have h9 := hB.sc1 HM.out HL.out HLv.out; rwa [HK.out] at h9
  clear h hN ha hb hm hl hlv hlv2 hcl hk hR e0 hW
  go_enter Tryz.func101, Tryz.ntmps101
  go_upto_region 1 with fail
  rw [HW.out]
  go_upto_region 9 with (go_at_call 135; refine HS.out.mono ?_; rintro e w3 hs; obtain ⟨wv3, hq3, ha3, hk3⟩ := HQ.out.next hs; have HQ3 := hid hq3; have HQ3d := hid (hq3.on (Below.refl _ _).drew); have HA3 := hid ha3; have HK3 := hid hk3; have hS3 := HSf.out _ _ _ hq3; obtain ⟨rfl, -⟩ := id hs; clear hs hq3 ha3 hk3)
  clear c0 HS
  go_region_held3 (SC1 w.heap.size gl ol (.int .i64 13) (.slice (some ⟨gl, ol, none⟩) 1 cl) (.int .i64 (a : Int))) (((repeat (first | (with_reducible refine sC1D ?_) | (with_reducible refine sC1A ?_))); (with_reducible assumption)))
    (first
      | (go_at_call 138; refine (show Calls Tryz.prog 138 #[.int .i64 13] w3.drew (fun e w' => e = .returned (.int .i64 3) ∧ w' = w3.drew) from binds_any 13 w3.drew).mono ?_; rintro e w4 ⟨rfl, rfl⟩)
      | (go_at_call 137; refine (wbound_any HN.out HLa.out.1 HLa.out.2 HQ3d.out.s (by have := HBd.out; simp only [List.length_append, List.length_cons, List.length_nil]; omega)).mono ?_; rintro e w5 hs; have HS5 := hid hs; obtain ⟨wv5, hq5, -, -⟩ := HQ3d.out.next hs; have hS5 := HSf.out _ _ _ hq5; obtain ⟨rfl, -⟩ := id hs; clear hs hq5))
  all_goals
    (clear hS3
     go_wp2
     go_end0
     rw [HR.out]
     exact SyP.of HB0.out (SyP.trans HA3.out HK3.out (SyP.of (Below.refl _ _).drew HS5.out)))
set_option maxRecDepth 100000 in
set_option maxHeartbeats 4000000 in
theorem wcond_14 {d : Nat} (h : Ws B qs w wb nv wv ws) (ho : NxOk q) (hk : q.np.kind = 14) (hb : (ws.length + (condX (qs.map xn) (wd (qs.map xn) d) q.np (vtx q)).length) * 16 ≤ 140737488355328) : Calls Tryz.prog 101 #[dp wb, .agg q.cells.toArray] w (SyP B wb nv wv (ws ++ condX (qs.map xn) (wd (qs.map xn) d) q.np (vtx q)) w) := by
  have e0 : condX (qs.map xn) (wd (qs.map xn) d) q.np (vtx q) = [q.np.s, wordL howL q.np.n, vtx q] := by
    unfold condX
    rw [if_neg (by rw [hk]; decide), if_neg (by rw [hk]; decide), if_pos hk]
  rw [e0] at hb
  generalize hR : ws ++ condX (qs.map xn) (wd (qs.map xn) d) q.np (vtx q) = R
  have HR : Hid (R = ws ++ [q.np.s, wordL howL q.np.n, vtx q]) := by show _ = _; rw [← hR, e0]
  have HBd := hid hb
  have HO := hid ho
  have HQ := hid (Bq.box (q := q) h)
  have HB0 := hid (box_below (w := w) (q := q))
  generalize hW : w.alloc (.cells q.cells.toArray 44) = w1 at *
  have HW := hid hW
  have c0 := HQ.out.cell (j := 0) rfl
  rw [hk] at c0
  have hS1 := HQ.out.scv
  have HQd := hid (HQ.out.on (Below.refl _ _).drew)
  clear h hb hk hR e0 hW ho
  go_enter Tryz.func101, Tryz.ntmps101
  go_upto_region 1 with fail
  rw [HW.out]
  go_upto_region 11 with fail
  clear c0
  go_region_held3 (SCv w.heap.size (.string (St q.np.s)) (.int .i64 q.np.n) (.int .i64 q.np.vk) (.int .i64 q.np.vn) (.string (St q.np.vs)) (.int .i64 q.h0) (.int .i64 q.h1) (.int .i64 q.h2) (.int .i64 q.h3) (.int .i64 q.h4) (.int .i64 q.h5) (.int .i64 q.h6) (.int .i64 q.h7)) (((repeat (first | (with_reducible refine sCvD ?_) | (with_reducible refine sCvA ?_))); (with_reducible assumption)))
    (first
      | (go_at_call 139; refine (how_word q.np.n w1.drew HQd.out.s.g.p).mono ?_; rintro e w4 ⟨rfl, rfl⟩)
      | (go_at_call 140; refine (textS_any HO.out HQd.out.s.g).mono ?_; rintro e w3 ⟨rfl, hb3⟩; have HB3 := hid hb3; have HQ3 := hid (HQd.out.on hb3); have hS3 := HQ3.out.scv; have HS4 := hid (HQ3.out.s.say [q.np.s, wordL howL q.np.n, vtx q] (by simp) (by simp) rfl rfl HBd.out); clear hb3)
      | (go_at_call 135; refine HS4.out.mono ?_; rintro e w5 hs; have HS5 := hid hs; obtain ⟨wv5, hq5, -, -⟩ := HQ3.out.next hs; have hS5 := hq5.scv; obtain ⟨rfl, -⟩ := id hs; clear hs hq5))
  all_goals
    (clear hS1 hS3
     go_wp2
     go_end0
     rw [HR.out]
     exact SyP.of HB0.out (SyP.of ((Below.refl _ _).drew.trans HB3.out) HS5.out))
set_option maxRecDepth 100000 in
set_option maxHeartbeats 4000000 in
theorem wcond_15 {d : Nat} (h : Ws B qs w wb nv wv ws) (ho : NxOk q) (hk : q.np.kind = 15) (hb : (ws.length + (condX (qs.map xn) (wd (qs.map xn) d) q.np (vtx q)).length) * 16 ≤ 140737488355328) : Calls Tryz.prog 101 #[dp wb, .agg q.cells.toArray] w (SyP B wb nv wv (ws ++ condX (qs.map xn) (wd (qs.map xn) d) q.np (vtx q)) w) := by
  have e0 : condX (qs.map xn) (wd (qs.map xn) d) q.np (vtx q) = [q.np.s, wHas, quoted q.np.vs] := by
    unfold condX
    rw [if_neg (by rw [hk]; decide), if_neg (by rw [hk]; decide), if_neg (by rw [hk]; decide)]
  rw [e0] at hb
  generalize hR : ws ++ condX (qs.map xn) (wd (qs.map xn) d) q.np (vtx q) = R
  have HR : Hid (R = ws ++ [q.np.s, wHas, quoted q.np.vs]) := by show _ = _; rw [← hR, e0]
  have HBd := hid hb
  have HO := hid ho
  have HQ := hid (Bq.box (q := q) h)
  have HB0 := hid (box_below (w := w) (q := q))
  generalize hW : w.alloc (.cells q.cells.toArray 44) = w1 at *
  have HW := hid hW
  have c0 := HQ.out.cell (j := 0) rfl
  rw [hk] at c0
  have hS1 := HQ.out.sch
  have HQd := hid (HQ.out.on (Below.refl _ _).drew)
  clear h hb hk hR e0 hW ho
  go_enter Tryz.func101, Tryz.ntmps101
  go_upto_region 1 with fail
  rw [HW.out]
  go_upto_region 13 with fail
  clear c0
  go_region_held3 (SCh w.heap.size (.string (St q.np.s)) (.string (St q.np.vs))) (((repeat (first | (with_reducible refine sChD ?_) | (with_reducible refine sChA ?_))); (with_reducible assumption)))
    (first
      | (go_at_call 141; refine (quote_any q.np.vs HO.out.s _).mono ?_; rintro e w3 ⟨rfl, hb3⟩; have HB3 := hid hb3; have HQ3 := hid (HQd.out.on hb3); have hS3 := HQ3.out.sch; have HS4 := hid (HQ3.out.s.say [q.np.s, wHas, quoted q.np.vs] (by simp) (by simp) rfl rfl HBd.out); clear hb3)
      | (go_at_call 135; refine HS4.out.mono ?_; rintro e w5 hs; have HS5 := hid hs; obtain ⟨wv5, hq5, -, -⟩ := HQ3.out.next hs; have hS5 := hq5.sch; obtain ⟨rfl, -⟩ := id hs; clear hs hq5))
  all_goals
    (clear hS1 hS3
     go_wp2
     go_end0
     rw [HR.out]
     exact SyP.of HB0.out (SyP.of ((Below.refl _ _).drew.trans HB3.out) HS5.out))
end
end Go.Proofs.YtmpjmimhoikknaaGreatDoor
