/-
  What fetch, chain, both, cond, inBrackets and not do.
-/
import Derived.Test.YtmpjmimhoikknaaGreatDoorK05
namespace Go.Proofs.YtmpjmimhoikknaaGreatDoor
open Go.RowKit Go.Joins

section
variable {B : Nat} {ts : List Tp} {w : World} {rb : Nat} {tv sv : Value} {o i : Nat} {qs : List Nd}
abbrev fetN (s : List UInt8) (a b : Int) : Np := { n0 with kind := 1, s := s, from_ := a, to_ := b }
theorem fet_set (s : List UInt8) (a b c : Int) : (bare (fetN s a b)).cells.toArray.setIfInBounds 3 (.int .i64 c) = (bare (fetN s c b)).cells.toArray := rfl
theorem fet_set4 (s : List UInt8) (a b c : Int) : (bare (fetN s a b)).cells.toArray.setIfInBounds 4 (.int .i64 c) = (bare (fetN s a c)).cells.toArray := rfl
theorem box_set3 {W : World} {g : Nat} {s : List UInt8} {a b : Int} (h : W.heap[g]? = some (.cells (bare (fetN s a b)).cells.toArray 44 (0, 0))) (c : Int) : (W.setCell ⟨g, 3, none⟩ (.int .i64 c)).heap[g]? = some (.cells (bare (fetN s c b)).cells.toArray 44 (0, 0)) := block_set h 3 (.int .i64 c)
theorem box_set4 {W : World} {g : Nat} {s : List UInt8} {a b : Int} (h : W.heap[g]? = some (.cells (bare (fetN s a b)).cells.toArray 44 (0, 0))) (c : Int) : (W.setCell ⟨g, 4, none⟩ (.int .i64 c)).heap[g]? = some (.cells (bare (fetN s a c)).cells.toArray 44 (0, 0)) := block_set h 4 (.int .i64 c)
theorem box_c3 {W : World} {g : Nat} {s : List UInt8} {a b : Int} (h : W.heap[g]? = some (.cells (bare (fetN s a b)).cells.toArray 44 (0, 0))) : W.cell? ⟨g, 3, none⟩ = some (.int .i64 a) := block_cell h 3
theorem box_c4 {W : World} {g : Nat} {s : List UInt8} {a b : Int} (h : W.heap[g]? = some (.cells (bare (fetN s a b)).cells.toArray 44 (0, 0))) : W.cell? ⟨g, 4, none⟩ = some (.int .i64 b) := block_cell h 4
set_option maxRecDepth 100000 in
set_option maxHeartbeats 2000000 in
theorem fetch_any (h : Rq B ts w rb tv sv o i qs) : Calls Tryz.prog 109 #[dp rb] w (P1 B ts rb tv sv o qs w (vNd B) (fetchS ts i)) := by
  have HB0 : Hid (Below w.heap.size w (w.alloc (.cells zNd 44))) := (Below.refl _ _).alloc (Nat.le_refl _) _
  have HZ := hid (alloc_block w (.cells zNd 44))
  have HQ0 := hid (h.on HB0.out)
  have HR0 := hid h
  have hrl := h.lt
  generalize hW : w.alloc (.cells zNd 44) = w1 at *
  have HW := hid hW
  clear h hW
  have M1 : Hid True := trivial
  have M2 : Hid True := trivial
  go_enter Tryz.func109, Tryz.ntmps109
  go_upto_region 1 with fail
  rw [HW.out]
  go_wp2_with (first
    | (go_at_call 146; have FIRST := M1; refine (want_any HQ0.out wFetch).mono ?_; rintro e w2 ⟨hk, ⟨j, c, hr, rfl⟩ | ⟨_, j, v, hr, rfl, rfl, hq⟩⟩; (focus (go_wp2_with fail; exact ⟨rfl, P1.bad ((Kp.of HB0.out).trans hk) (by simp [fetchS, hr, Rs.and])⟩)); have HK2 := hid ((Kp.of HB0.out).trans hk); have HQ2 := hid hq; have HR2 := hid hr; have HZ2 := hid (hk.blk HZ.out (fun e => by omega)); clear hk hq hr FIRST M1)
    | (go_at_call 147; refine (name_any HQ2.out).mono ?_; rintro e w3 ⟨hk, ⟨j2, c, hr, rfl⟩ | ⟨s, j2, v, hr, rfl, rfl, hq⟩⟩; (focus (go_wp2_with fail; exact ⟨rfl, P1.bad (HK2.out.trans hk) (by simp [fetchS, HR2.out, hr, Rs.and])⟩)); have HK3 := hid (HK2.out.trans hk); have HQ3 := hid hq; have HR3 := hid hr; have HZ3 := hid (hk.blk HZ2.out (fun e => by omega)); have ng : ¬ w3.heap.size = w.heap.size := (fun e => by have := lt_of_block HZ3.out; omega); have ng2 : ¬ w3.heap.size = rb := (fun e => by have := HQ3.out.lt; omega); clear hk hq hr)
    | (have FIRST := M2; refine store_nd (q := bare (fetN s 0 1099511627775)) rfl _ _ rfl rfl rfl (bare_all _) (alloc_block w3 _) rfl ?_; intro w4 h4 k4; have H4 := hid h4; have K4 := hid (Rq.back HR0.out HQ3.out HK3.out ((Kp.alloc (fun k => w.heap.size ≤ k) w3 (.cells zNd 44)).trans (k4.imp (fun k _ e => by have := HK3.out.size; omega)))); have HZ4 := hid (k4.blk ((Kp.alloc (fun _ => False) w3 (.cells zNd 44)).blk HZ3.out id) (fun e => ng e.symm)); clear h4 k4 FIRST M2)
    | (go_at_call 110; refine (skip_any K4.out.1 wFrom).mono ?_; rintro e w5 ⟨rfl, hq, hk⟩; have HK5 := hid (K4.out.2.trans hk); have HQ5 := hid hq; have HZ5 := hid (hk.blk HZ4.out (fun e => by omega)); have H5 := hid (hk.blk H4.out ng2); clear hq hk;
        cases hw : isW ts j2 wFrom with
        | true =>
          rw [hw] at HQ5
          have C := hid hw
          clear hw
          have M3 : Hid True := trivial
          go_wp2_with (first
            | (go_at_call 148; have FIRST := M3; refine (number_any HQ5.out).mono ?_; rintro e w6 ⟨hk, ⟨j3, c, hr, rfl⟩ | ⟨n1, j3, v, hr, rfl, rfl, hq⟩⟩; (focus (go_wp2_with fail; exact ⟨rfl, P1.bad (HK5.out.trans hk) (by simp only [if_true] at hr; simp [fetchS, HR2.out, HR3.out, C.out, hr, Rs.and])⟩)); have HR6 := hid hr; have H6 := hid (box_set3 (hk.blk H5.out ng2) n1); have c6 := box_c3 (hk.blk H5.out ng2); have f6 := block_frozen (hk.blk H5.out ng2) 3; have K6 := hid (Rq.back HR0.out hq (HK5.out.trans hk) (Kp.set (T := fun k => w.heap.size ≤ k) (b := w3.heap.size) (i := 3) HK3.out.size (.int .i64 n1))); have HZ6 := hid ((Kp.set (T := fun k => k = w3.heap.size) (i := 3) rfl (.int .i64 n1)).blk (hk.blk HZ5.out (fun e => by omega)) (fun e => ng e.symm)); clear hk hq hr FIRST M3)
            | (go_at_call 146; clear c6 f6; refine (want_any K6.out.1 wTo).mono ?_; rintro e w7 ⟨hk, ⟨j4, c, hr, rfl⟩ | ⟨_, j4, v, hr, rfl, rfl, hq⟩⟩; (focus (go_wp2_with fail; exact ⟨rfl, P1.bad (K6.out.2.trans hk) (by have hr6 := HR6.out; simp only [if_true] at hr6; simp [fetchS, HR2.out, HR3.out, C.out, hr6, hr, Rs.and])⟩)); have HR7 := hid hr; have H7 := hid (hk.blk H6.out ng2); have K7 := hid (K6.out.2.trans hk); have HQ7 := hid hq; have HZ7 := hid (hk.blk HZ6.out (fun e => by omega)); clear hk hq hr)
            | (go_at_call 148; refine (number_any HQ7.out).mono ?_; rintro e w8 ⟨hk, ⟨j5, c, hr, rfl⟩ | ⟨n2, j5, v, hr, rfl, rfl, hq⟩⟩; (focus (go_wp2_with fail; exact ⟨rfl, P1.bad (K7.out.trans hk) (by have hr6 := HR6.out; simp only [if_true] at hr6; simp [fetchS, HR2.out, HR3.out, C.out, hr6, HR7.out, hr, Rs.and])⟩)); have HR8 := hid hr; have H8 := hid (box_set4 (hk.blk H7.out ng2) n2); have c8 := box_c4 (hk.blk H7.out ng2); have f8 := block_frozen (hk.blk H7.out ng2) 4; have K8 := hid (Rq.back HR0.out hq (K7.out.trans hk) (Kp.set (T := fun k => w.heap.size ≤ k) (b := w3.heap.size) (i := 4) HK3.out.size (.int .i64 n2))); have HZ8 := hid ((Kp.set (T := fun k => k = w3.heap.size) (i := 4) rfl (.int .i64 n2)).blk (hk.blk HZ7.out (fun e => by omega)) (fun e => ng e.symm)); clear hk hq hr)
            | (refine load_nd (q := bare (fetN s n1 n2)) rfl _ rfl rfl H8.out ?_)
            | (refine store_nd (q := bare (fetN s n1 n2)) rfl _ _ rfl rfl rfl (bare_all _) HZ8.out rfl ?_; intro w9 h9 k9; have H9 := hid h9; have K9 := hid (val_back HR0.out K8.out.1 K8.out.2 k9); clear h9 k9))
          exact ret_nd rfl rfl H9.out rfl rfl ⟨K9.out.2, .inr ⟨_, j5, _, by have hr6 := HR6.out; simp only [if_true] at hr6; simp [fetchS, HR2.out, HR3.out, C.out, hr6, HR7.out, HR8.out, Rs.and], rfl, ⟨_, rfl, rfl, bare_in _ _ rfl rfl rfl⟩, K9.out.1⟩⟩
        | false =>
          rw [hw] at HQ5
          have C := hid hw
          clear hw
          go_wp2_with (first
            | (refine load_nd (q := bare (fetN s 0 1099511627775)) rfl _ rfl rfl H5.out ?_)
            | (refine store_nd (q := bare (fetN s 0 1099511627775)) rfl _ _ rfl rfl rfl (bare_all _) HZ5.out rfl ?_; intro w9 h9 k9; have H9 := hid h9; have K9 := hid (val_back HR0.out HQ5.out HK5.out k9); clear h9 k9))
          exact ret_nd rfl rfl H9.out rfl rfl ⟨K9.out.2, .inr ⟨_, j2, _, by simp [fetchS, HR2.out, HR3.out, C.out, Rs.and]; rfl, rfl, ⟨_, rfl, rfl, bare_in _ _ rfl rfl rfl⟩, K9.out.1⟩⟩))
/- What a function that lays nodes does, wherever the reader stands. -/
def PNc (F : Nat) (B : Nat) (ts : List Tp) (rb : Nat) (tv : Value) (o : Nat) (p : PN) : Prop :=
  ∀ (w : World) (sv : Value) (i : Nat) (qs : List Nd), Rq B ts w rb tv sv o i qs → Calls Tryz.prog F #[dp rb] w (P2 B ts rb tv sv o w vNat (p i (qs.map (·.np))))
theorem P2.bad {α : Type} {val : World → α → Value → Prop} {r : Rs (α × List Np)} {j : Nat} {c : Int} {w' : World} (hk : Kp (Tq rb sv) w w') (h : r = .bad j c) : P2 B ts rb tv sv o w val r (dies (faultV j c)) w' := ⟨hk, .inl ⟨_, _, h, rfl⟩⟩
/- A node that names one or two others. -/
abbrev nam1 (W : World) (n : Np) : Nd := ⟨n, .slice (some ⟨W.heap.size, 0, none⟩) 1 1, .slice none 0 0, .slice none 0 0⟩
abbrev nam2 (W : World) (n : Np) : Nd := ⟨n, .slice (some ⟨W.heap.size, 0, none⟩) 2 2, .slice none 0 0, .slice none 0 0⟩
theorem own_ints (W : World) (l : List Int) (hl : l.length ≤ 1000) {B : Nat} (hB : B ≤ W.heap.size) : Own int1 1 3 B (W.alloc (.cells (l.flatMap int1).toArray 3)) (.slice (some ⟨W.heap.size, 0, none⟩) l.length l.length) l :=
  Own.blk (enc := int1) (k := 1) (e := 3) (B := B) (w := W.alloc (.cells (l.flatMap int1).toArray 3)) (xs := l) (fun _ => rfl) hB (alloc_block W _) (by unfold maxLen; omega)
theorem nam2_in {W : World} {n : Np} {a b : Int} {B : Nat} (hB : B ≤ W.heap.size) (h1 : n.l = [a, b]) (h2 : n.names = []) (h3 : n.aggs = []) : NdIn B (W.alloc (.cells #[.int .i64 a, .int .i64 b] 3)) (nam2 W n) := by
  refine ⟨?_, ?_, ?_⟩
  · show Own _ _ _ _ _ _ n.l; rw [h1]; exact own_ints W [a, b] (by simp) hB
  · show Own _ _ _ _ _ _ n.names; rw [h2]; exact Own.nil _ _ _ _ _
  · show Own _ _ _ _ _ _ n.aggs; rw [h3]; exact Own.nil _ _ _ _ _
theorem nam1_in {W : World} {n : Np} {a : Int} {B : Nat} (hB : B ≤ W.heap.size) (h1 : n.l = [a]) (h2 : n.names = []) (h3 : n.aggs = []) : NdIn B (W.alloc (.cells #[.int .i64 a] 3)) (nam1 W n) := by
  refine ⟨?_, ?_, ?_⟩
  · show Own _ _ _ _ _ _ n.l; rw [h1]; exact own_ints W [a] (by simp) hB
  · show Own _ _ _ _ _ _ n.names; rw [h2]; exact Own.nil _ _ _ _ _
  · show Own _ _ _ _ _ _ n.aggs; rw [h3]; exact Own.nil _ _ _ _ _
theorem map_snoc {qs : List Nd} {q : Nd} {ns : List Np} (h : qs.map (·.np) = ns) : (qs ++ [q]).map (·.np) = ns ++ [q.np] := by simp [← h]
set_option maxRecDepth 100000 in
set_option maxHeartbeats 4000000 in
theorem chain_not {p : PN} (hp : PNc 244 B ts rb tv o p) (hg : GoN ts p) (x : List UInt8) (kind : Int) (h : Rq B ts w rb tv sv o i qs) : Calls Tryz.prog 226 #[dp rb, .string (St x), .int .i64 kind, .func (.func 244) #[dp rb] #[]] w (P2 B ts rb tv sv o w vNat (chainS ts x kind p i (qs.map (·.np)))) := by
  have HP := hid hp
  have HG := hid hg
  have HC := hid (hp w sv i qs h)
  have htl := h.tl
  have HQL := hid h.ql
  clear hp hg h
  have M1 : Hid True := trivial
  go_enter Tryz.func226, Tryz.ntmps226
  go_wp2_with (go_at_call 244; clear M1; refine HC.out.mono ?_; rintro e w1 ⟨hk, ⟨j, c, hr, rfl⟩ | ⟨r, j, v, sv1, qs1, hr, rfl, rfl, hq, hm, ha⟩⟩; (focus (go_wp2_with fail; exact ⟨rfl, P2.bad hk (by simp only [chainS, hr, Rs.and])⟩)); have HK1 := hid hk; have HQ1 := hid hq; have HR1 := hid hr; have HM1 := hid hm; have HA1 := hid ha; clear hk hq hr hm ha)
  have HL : Hid (chainS ts x kind p i (qs.map (·.np)) = chainL ts x kind p ts.length r.1 j (qs1.map (·.np))) := by show _ = _; simp only [chainS, HR1.out, Rs.and]; rw [HM1.out]
  have HGo := hid (HG.out _ _ _ _ HR1.out)
  have hr1 : (r.1 : Int) ≤ 1024 := by have := HGo.out; have := HQ1.out.ql; have := HQ1.out.il; have e := congrArg List.length HM1.out; simp at e; omega
  go_loopw [9] (fun u wr => ∃ (f a j : Nat) (sv' : Value) (qs' : List Nd), Hid (chainS ts x kind p i (qs.map (·.np)) = chainL ts x kind p f a j (qs'.map (·.np))) ∧ Hid (ts.length ≤ f + j ∧ a < qs'.length) ∧ u = .int .i64 (a : Int) ∧ (a : Int) ≤ 1024 ∧ Hid (Rq B ts wr rb tv sv' o j qs') ∧ Hid (Kp (Tq rb sv) w wr) ∧ Hid (At w sv sv')) (fun _ wr => ts.length + 1 - atOf rb wr)
  case atStart => exact ⟨ts.length, r.1, j, sv1, qs1, HL.out, ⟨by omega, by have := HGo.out; have e := congrArg List.length HM1.out; simp at e; omega⟩, rfl, hr1, HQ1.out, HK1.out, HA1.out⟩
  case round =>
    obtain ⟨f, a, j, sv', qs', HM, HF, rfl, ha1, HQr, HKr, HAr⟩ := hrel
    clear HL HGo HR1 HQ1 HM1 HK1 HA1 hr1
    have HS := hid (skip_any HQr.out x)
    cases hw : isW ts j x with
    | true =>
      rw [hw] at HS
      obtain ⟨f', rfl⟩ : ∃ f', f = f' + 1 := ⟨f - 1, by have := HF.out; have := isW_lt hw; omega⟩
      have HM2 : Hid (chainS ts x kind p i (qs.map (·.np)) = (p (j + 1) (qs'.map (·.np))).and fun r j => chainL ts x kind p f' r.2.length j (r.2 ++ [{ n0 with kind := kind, l := [(a : Int), (r.1 : Int)] }])) := by show _ = _; rw [HM.out, chainL, if_pos hw]
      clear hw HM
      go_wp2_with (first
        | (go_at_call 110; refine HS.out.mono ?_; rintro e w3 ⟨rfl, hq, hk⟩; have HQ3 := hid hq; have HK3 := hid (HKr.out.next HAr.out hk.r); have HS3 := hid hk.size; clear hq hk)
        | (go_at_call 244; refine (HP.out _ _ _ _ HQ3.out).mono ?_; rintro e w4 ⟨hk, ⟨j2, c, hr, rfl⟩ | ⟨r, j2, v, sv2, qs2, hr, rfl, rfl, hq, hm, ha⟩⟩; (focus (go_wp2_with fail; exact ⟨rfl, P2.bad (HK3.out.next HAr.out hk) (by rw [HM2.out]; simp only [if_true] at hr; rw [hr]; rfl)⟩)); have HK4 := hid (HK3.out.next HAr.out hk); have HQ4 := hid hq; have HR4 := hid hr; have HMp := hid hm; have HA4 := hid (HAr.out.trans ha HK3.out.size); clear hk hq hr hm ha; have HGo := hid (HG.out _ _ _ _ HR4.out); have HLn := hid (congrArg List.length HMp.out); have HLl : Hid (qs2.length + 1 ≤ j2) := (by show _ ≤ _; have g := HGo.out; have e := HLn.out; have := HQr.out.ql; simp at e g; omega))
        | (go_at_call 108; refine (lay_any (q := nam2 w4 { n0 with kind := kind, l := [(a : Int), (r.1 : Int)] }) (HQ4.out.on ((Below.refl _ _).alloc (Nat.le_refl _) _)) (nam2_in HQ4.out.B_le rfl rfl rfl) HLl.out).mono ?_; rintro e w5 ⟨rfl, sv5, hq, ha, hk⟩; have HQ5 := hid hq; have HK5 := hid (HK4.out.next HA4.out ((Kp.alloc _ _ _).trans hk)); have HA5 := hid (HA4.out.trans ha (Nat.le_trans HK4.out.size (by simp))); clear hq ha hk))
      have g := HGo.out
      have e := HLn.out
      simp only [List.length_map, if_true] at e g
      have e4 := HR4.out
      simp only [if_true] at e4
      go_roundw
      case rel =>
        refine ⟨f', qs2.length, j2, sv5, qs2 ++ [nam2 w4 { n0 with kind := kind, l := [(a : Int), (r.1 : Int)] }], ?_, ⟨by have := HF.out; omega, by simp⟩, rfl, by have := HQ4.out.ql; have := HQ4.out.il; omega, HQ5.out, HK5.out, HA5.out⟩
        show _ = _
        rw [HM2.out, e4, map_snoc HMp.out, e]; rfl
      case measure =>
        rw [HQ5.out.atOf, HQr.out.atOf]; have := HQ5.out.il; omega
    | false =>
      rw [hw] at HS
      have HM2 : Hid (chainS ts x kind p i (qs.map (·.np)) = .ok (a, qs'.map (·.np)) j) := by
        show _ = _
        rw [HM.out]
        cases f with
        | zero => rfl
        | succ f => rw [chainL, if_neg (by rw [hw]; decide)]
      clear hw HM
      go_wp2_with (go_at_call 110; refine HS.out.mono ?_; rintro e w3 ⟨rfl, hq, hk⟩; have HQ3 := hid hq; have HK3 := hid (HKr.out.next HAr.out hk.r); clear hq hk)
      go_ret
      exact ⟨HK3.out, .inr ⟨_, j, _, sv', qs', HM2.out, rfl, rfl, HQ3.out, rfl, HAr.out⟩⟩
set_option maxRecDepth 100000 in
set_option maxHeartbeats 4000000 in
theorem chain_both {p : PN} (hp : PNc 227 B ts rb tv o p) (hg : GoN ts p) (x : List UInt8) (kind : Int) (h : Rq B ts w rb tv sv o i qs) : Calls Tryz.prog 226 #[dp rb, .string (St x), .int .i64 kind, .func (.func 227) #[dp rb] #[]] w (P2 B ts rb tv sv o w vNat (chainS ts x kind p i (qs.map (·.np)))) := by
  have HP := hid hp
  have HG := hid hg
  have HC := hid (hp w sv i qs h)
  have htl := h.tl
  have HQL := hid h.ql
  clear hp hg h
  have M1 : Hid True := trivial
  go_enter Tryz.func226, Tryz.ntmps226
  go_wp2_with (go_at_call 227; clear M1; refine HC.out.mono ?_; rintro e w1 ⟨hk, ⟨j, c, hr, rfl⟩ | ⟨r, j, v, sv1, qs1, hr, rfl, rfl, hq, hm, ha⟩⟩; (focus (go_wp2_with fail; exact ⟨rfl, P2.bad hk (by simp only [chainS, hr, Rs.and])⟩)); have HK1 := hid hk; have HQ1 := hid hq; have HR1 := hid hr; have HM1 := hid hm; have HA1 := hid ha; clear hk hq hr hm ha)
  have HL : Hid (chainS ts x kind p i (qs.map (·.np)) = chainL ts x kind p ts.length r.1 j (qs1.map (·.np))) := by show _ = _; simp only [chainS, HR1.out, Rs.and]; rw [HM1.out]
  have HGo := hid (HG.out _ _ _ _ HR1.out)
  have hr1 : (r.1 : Int) ≤ 1024 := by have := HGo.out; have := HQ1.out.ql; have := HQ1.out.il; have e := congrArg List.length HM1.out; simp at e; omega
  go_loopw [9] (fun u wr => ∃ (f a j : Nat) (sv' : Value) (qs' : List Nd), Hid (chainS ts x kind p i (qs.map (·.np)) = chainL ts x kind p f a j (qs'.map (·.np))) ∧ Hid (ts.length ≤ f + j ∧ a < qs'.length) ∧ u = .int .i64 (a : Int) ∧ (a : Int) ≤ 1024 ∧ Hid (Rq B ts wr rb tv sv' o j qs') ∧ Hid (Kp (Tq rb sv) w wr) ∧ Hid (At w sv sv')) (fun _ wr => ts.length + 1 - atOf rb wr)
  case atStart => exact ⟨ts.length, r.1, j, sv1, qs1, HL.out, ⟨by omega, by have := HGo.out; have e := congrArg List.length HM1.out; simp at e; omega⟩, rfl, hr1, HQ1.out, HK1.out, HA1.out⟩
  case round =>
    obtain ⟨f, a, j, sv', qs', HM, HF, rfl, ha1, HQr, HKr, HAr⟩ := hrel
    clear HL HGo HR1 HQ1 HM1 HK1 HA1 hr1
    have HS := hid (skip_any HQr.out x)
    cases hw : isW ts j x with
    | true =>
      rw [hw] at HS
      obtain ⟨f', rfl⟩ : ∃ f', f = f' + 1 := ⟨f - 1, by have := HF.out; have := isW_lt hw; omega⟩
      have HM2 : Hid (chainS ts x kind p i (qs.map (·.np)) = (p (j + 1) (qs'.map (·.np))).and fun r j => chainL ts x kind p f' r.2.length j (r.2 ++ [{ n0 with kind := kind, l := [(a : Int), (r.1 : Int)] }])) := by show _ = _; rw [HM.out, chainL, if_pos hw]
      clear hw HM
      go_wp2_with (first
        | (go_at_call 110; refine HS.out.mono ?_; rintro e w3 ⟨rfl, hq, hk⟩; have HQ3 := hid hq; have HK3 := hid (HKr.out.next HAr.out hk.r); have HS3 := hid hk.size; clear hq hk)
        | (go_at_call 227; refine (HP.out _ _ _ _ HQ3.out).mono ?_; rintro e w4 ⟨hk, ⟨j2, c, hr, rfl⟩ | ⟨r, j2, v, sv2, qs2, hr, rfl, rfl, hq, hm, ha⟩⟩; (focus (go_wp2_with fail; exact ⟨rfl, P2.bad (HK3.out.next HAr.out hk) (by rw [HM2.out]; simp only [if_true] at hr; rw [hr]; rfl)⟩)); have HK4 := hid (HK3.out.next HAr.out hk); have HQ4 := hid hq; have HR4 := hid hr; have HMp := hid hm; have HA4 := hid (HAr.out.trans ha HK3.out.size); clear hk hq hr hm ha; have HGo := hid (HG.out _ _ _ _ HR4.out); have HLn := hid (congrArg List.length HMp.out); have HLl : Hid (qs2.length + 1 ≤ j2) := (by show _ ≤ _; have g := HGo.out; have e := HLn.out; have := HQr.out.ql; simp at e g; omega))
        | (go_at_call 108; refine (lay_any (q := nam2 w4 { n0 with kind := kind, l := [(a : Int), (r.1 : Int)] }) (HQ4.out.on ((Below.refl _ _).alloc (Nat.le_refl _) _)) (nam2_in HQ4.out.B_le rfl rfl rfl) HLl.out).mono ?_; rintro e w5 ⟨rfl, sv5, hq, ha, hk⟩; have HQ5 := hid hq; have HK5 := hid (HK4.out.next HA4.out ((Kp.alloc _ _ _).trans hk)); have HA5 := hid (HA4.out.trans ha (Nat.le_trans HK4.out.size (by simp))); clear hq ha hk))
      have g := HGo.out
      have e := HLn.out
      simp only [List.length_map, if_true] at e g
      have e4 := HR4.out
      simp only [if_true] at e4
      go_roundw
      case rel =>
        refine ⟨f', qs2.length, j2, sv5, qs2 ++ [nam2 w4 { n0 with kind := kind, l := [(a : Int), (r.1 : Int)] }], ?_, ⟨by have := HF.out; omega, by simp⟩, rfl, by have := HQ4.out.ql; have := HQ4.out.il; omega, HQ5.out, HK5.out, HA5.out⟩
        show _ = _
        rw [HM2.out, e4, map_snoc HMp.out, e]; rfl
      case measure =>
        rw [HQ5.out.atOf, HQr.out.atOf]; have := HQ5.out.il; omega
    | false =>
      rw [hw] at HS
      have HM2 : Hid (chainS ts x kind p i (qs.map (·.np)) = .ok (a, qs'.map (·.np)) j) := by
        show _ = _
        rw [HM.out]
        cases f with
        | zero => rfl
        | succ f => rw [chainL, if_neg (by rw [hw]; decide)]
      clear hw HM
      go_wp2_with (go_at_call 110; refine HS.out.mono ?_; rintro e w3 ⟨rfl, hq, hk⟩; have HQ3 := hid hq; have HK3 := hid (HKr.out.next HAr.out hk.r); clear hq hk)
      go_ret
      exact ⟨HK3.out, .inr ⟨_, j, _, sv', qs', HM2.out, rfl, rfl, HQ3.out, rfl, HAr.out⟩⟩
set_option maxRecDepth 100000 in
theorem both_of {p : PN} (hp : PNc 244 B ts rb tv o p) (hg : GoN ts p) : PNc 227 B ts rb tv o (bothB ts p) := by
  intro w sv i qs h
  have HC := hid (chain_not hp hg wAnd 11 h)
  clear h hp hg
  go_enter Tryz.func227, Tryz.ntmps227
  have hmf : ∀ (fn : Fn) (first cap : Array Value) (w : World), (Instr.makeFunc fn first cap).run Tryz.prog w = .ok (.func fn first cap) w := fun _ _ _ _ => rfl
  go_wp2_with (go_at_call 226; refine HC.out.mono ?_; rintro e w1 ⟨hk, ⟨j, c, hr, rfl⟩ | ⟨r, j, v, sv1, qs1, hr, rfl, rfl, hq, hm, ha⟩⟩; (focus (go_wp2_with fail; exact ⟨rfl, P2.bad hk hr⟩)); have HK1 := hid hk; have HQ1 := hid hq; have HR1 := hid hr; have HM1 := hid hm; have HA1 := hid ha; clear hk hq hr hm ha)
  go_ret
  exact ⟨HK1.out, .inr ⟨r, j, _, sv1, qs1, HR1.out, rfl, rfl, HQ1.out, HM1.out, HA1.out⟩⟩
set_option maxRecDepth 100000 in
theorem cond_of {p : PN} (hp : PNc 244 B ts rb tv o p) (hg : GoN ts p) : PNc 210 B ts rb tv o (condB ts p) := by
  intro w sv i qs h
  have HC := hid (chain_both (both_of hp hg) (both_go hg) wOr 12 h)
  clear h hp hg
  go_enter Tryz.func210, Tryz.ntmps210
  have hmf : ∀ (fn : Fn) (first cap : Array Value) (w : World), (Instr.makeFunc fn first cap).run Tryz.prog w = .ok (.func fn first cap) w := fun _ _ _ _ => rfl
  go_wp2_with (go_at_call 226; refine HC.out.mono ?_; rintro e w1 ⟨hk, ⟨j, c, hr, rfl⟩ | ⟨r, j, v, sv1, qs1, hr, rfl, rfl, hq, hm, ha⟩⟩; (focus (go_wp2_with fail; exact ⟨rfl, P2.bad hk hr⟩)); have HK1 := hid hk; have HQ1 := hid hq; have HR1 := hid hr; have HM1 := hid hm; have HA1 := hid ha; clear hk hq hr hm ha)
  go_ret
  exact ⟨HK1.out, .inr ⟨r, j, _, sv1, qs1, HR1.out, rfl, rfl, HQ1.out, HM1.out, HA1.out⟩⟩
end
end Go.Proofs.YtmpjmimhoikknaaGreatDoor
