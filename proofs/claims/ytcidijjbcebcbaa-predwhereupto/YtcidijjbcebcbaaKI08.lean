/-
  SortStableFunc: the row is sorted, those that are the same as they stood.
  The comparison by which Top sorts.
  rowops' run: what the steps have in common.
  Top's step: canonical order, the stable sort, the first rows.
-/
import Derived.Test.YtcidijjbcebcbaaKH09
import Derived.Test.YtcidijjbcebcbaaKH10
import Derived.Test.YtcidijjbcebcbaaKH11
import Derived.Test.YtcidijjbcebcbaaKI02
import Derived.Test.YtcidijjbcebcbaaKI04
import Derived.Test.YtcidijjbcebcbaaKI07
namespace Go.Proofs.Ytcidijjbcebcbaa.SS
open Go.RowKit Go.Joins Go.Sort

set_option maxRecDepth 100000 in
set_option maxHeartbeats 8000000 in
theorem stable_any {enc : Nat → Value} (hE : Sls enc) {g : Nat} {cb : Array Value} (eg : ∀ args w, (callFunc g args).run Try.prog w = .ok (.enter g args) w) {c : Nat → Nat → Int} (hc : Cm c) {B n cap : Nat} {w : World} (hC : Cp g cb enc B n c w) (h : Rf enc B n id w) (hn : n ≤ 1000000) : Calls Try.prog 95 #[.slice (some ⟨B, 0, none⟩) n cap, .int .i64 n, .func (.func g) #[] cb] w fun e w' => e = .returned (.tuple #[]) ∧ Done enc B n c id 0 n w w' := by
  have H := hid h
  have HE := hid hE
  have HC := hid hC
  have HM := hid hc
  clear h hE hC hc
  have nI : (n : Int) ≤ 1000000 := by omega
  have T0 : Hid (Tn n id) := fun i hi => hi
  go_enter Try.func95, Try.ntmps95
  go_upto_region 2 with fail
  go_loopw [7, 8] (fun x y wr => ∃ a e : Nat, x = .int .i64 a ∧ y = .int .i64 e ∧ Hid (e = a + 20) ∧ Hid (∃ f, First c f 20 n a ∧ Rf enc B n f wr ∧ Pm 0 n id f) ∧ Hid (Kp (fun b => b = B) w wr)) (fun x _ _ => n - (intOf x).toNat)
  case atStart => exact ⟨0, 20, rfl, rfl, rfl, ⟨id, First.start c 20 n, H.out, Pm.refl _ _ _⟩, Kp.refl _ _⟩
  case round =>
    obtain ⟨a, a2, rfl, rfl, HA2, HF, HK⟩ := hrel
    have ha2 := HA2.out
    obtain ⟨f, hf1, hf2, hf3⟩ := HF.out
    have HF1 := hid hf1
    have HF2 := hid hf2
    have HF3 := hid hf3
    have han := hf1.ok
    clear hf1 hf2 hf3 HF
    by_cases hle : a2 ≤ n
    · have leI : (a2 : Int) ≤ n := by omega
      obtain ⟨a3, ha3⟩ : ∃ x, x = a2 + 20 := ⟨_, rfl⟩
      have a2I : (a2 : Int) + 20 = a3 := by omega
      have HA3 := hid ha3
      clear ha3
      clear ha2
      go_wp2_with (first | (go_at_call 117; refine (insertion_any HE.out eg HM.out (a := a) (b := a2) (f := f) (HC.out.at HK.out) HF2.out (by have := HA2.out; omega) hle hn (T0.out.pm HF3.out (Nat.le_refl _)) (fun i j h1 h2 _ => HF1.out.tags i j h1 h2)).mono ?_; rintro e w1 ⟨rfl, ⟨f1, q1, q2, q3⟩, hk⟩; have HQ1 := hid q1; have HQ2 := hid q2; have HQ3 := hid q3; have HK1 := hid (HK.out.trans hk); clear q1 q2 q3 hk))
      go_roundw
      case rel =>
        have h2 := HA2.out
        have hq2 := HQ2.out
        have hq3 := HQ3.out
        rw [h2] at hq2 hq3
        refine ⟨a2, a3, rfl, by go_num, HA3.out, ⟨f1, ?_, HQ1.out, HF3.out.trans (HQ2.out.mono (Nat.zero_le _) hle)⟩, HK1.out⟩
        rw [h2]
        exact HF1.out.one (by omega) hq2 hq3
      case measure => have := HA2.out; simp [intOf]; omega
    · have leI : ¬ (a2 : Int) ≤ n := by omega
      clear ha2
      go_upto_region 7 with (first | (go_at_call 117; refine (insertion_any HE.out eg HM.out (a := a) (b := n) (f := f) (HC.out.at HK.out) HF2.out han (Nat.le_refl _) hn (T0.out.pm HF3.out (Nat.le_refl _)) (fun i j h1 h2 _ => HF1.out.tags i j h1 h2)).mono ?_; rintro e w1 ⟨rfl, ⟨f1, q1, q2, q3⟩, hk⟩; have HQ1 := hid q1; have HQ2 := hid q2; have HQ3 := hid q3; have HK1 := hid (HK.out.trans hk); clear q1 q2 q3 hk))
      have BL : Hid (∃ f, Blocks c f 20 n ∧ Rf enc B n f w1 ∧ Pm 0 n id f) := ⟨f1, HF1.out.last (by have := HA2.out; omega) HQ2.out HQ3.out, HQ1.out, HF3.out.trans (HQ2.out.mono (Nat.zero_le _) (Nat.le_refl _))⟩
      clear HF1 HF2 HF3 HQ1 HQ2 HQ3
      go_loopw [6] (fun x wr => ∃ bs : Nat, x = .int .i64 bs ∧ 20 ≤ bs ∧ bs ≤ 2000000 ∧ Hid (∃ f, Blocks c f bs n ∧ Rf enc B n f wr ∧ Pm 0 n id f) ∧ Hid (Kp (fun b => b = B) w wr)) (fun x _ => n - (intOf x).toNat)
      case atStart => exact ⟨20, rfl, by omega, by omega, BL.out, HK1.out⟩
      case round =>
        obtain ⟨bs, rfl, hbs, hbs2, HB, HKo⟩ := hrel
        obtain ⟨f, hf1, hf2, hf3⟩ := HB.out
        have HF1 := hid hf1
        have HF2 := hid hf2
        have HF3 := hid hf3
        clear hf1 hf2 hf3 HB BL HK1
        by_cases hlt : bs < n
        · have ltI : (bs : Int) < n := by omega
          obtain ⟨b2, hb2⟩ : ∃ x, x = 2 * bs := ⟨_, rfl⟩
          have b2I : 2 * (bs : Int) = b2 := by omega
          have b2J : (bs : Int) * 2 = b2 := by omega
          have HB2 := hid hb2
          have b2n : (b2 : Int) ≤ 2000000 := by omega
          obtain ⟨wo, hwo⟩ : ∃ W, W = wr := ⟨wr, rfl⟩
          subst hwo
          clear hb2
          go_upto_region 9 with fail
          go_loopw [7, 8] (fun x y wr => ∃ a e : Nat, x = .int .i64 a ∧ y = .int .i64 e ∧ Hid (e = a + b2) ∧ Hid (∃ f, Pass c f bs n a ∧ Rf enc B n f wr ∧ Pm 0 n id f) ∧ Hid (Kp (fun b => b = B) w wr)) (fun x _ _ => n - (intOf x).toNat)
          case atStart => exact ⟨0, b2, rfl, rfl, by show b2 = 0 + b2; omega, ⟨f, Pass.start HF1.out, HF2.out, HF3.out⟩, HKo.out⟩
          case round =>
            obtain ⟨a, e2, rfl, rfl, HE2, HP, HK2⟩ := hrel
            obtain ⟨f2, hp1, hp2, hp3⟩ := HP.out
            have HP1 := hid hp1
            have HP2 := hid hp2
            have HP3 := hid hp3
            have han := hp1.ok
            clear hp1 hp2 hp3 HP
            have he2 := HE2.out
            have hb2 := HB2.out
            by_cases hle : e2 ≤ n
            · have leI : (e2 : Int) ≤ n := by omega
              obtain ⟨m, hm⟩ : ∃ x, x = a + bs := ⟨_, rfl⟩
              have mI : (a : Int) + bs = m := by omega
              have HMm := hid hm
              obtain ⟨e3, he3⟩ : ∃ x, x = e2 + b2 := ⟨_, rfl⟩
              have e3I : (e2 : Int) + b2 = e3 := by omega
              have HE3 := hid he3
              obtain ⟨t1, t2, t3⟩ := HP1.out.tags (b := e2) (by omega) (Or.inl ⟨by omega, hle⟩)
              rw [← hm] at t1 t2 t3
              have HT1 := hid t1
              have HT2 := hid t2
              have HT3 := hid t3
              clear t1 t2 t3 he2 hb2 hm he3
              go_wp2_with (first | (go_at_call 118; refine (sym_any HE.out eg HM.out hn e2 a m e2 f2 wr (by omega) (HC.out.at HK2.out) HP2.out (by have := HMm.out; omega) (by have := HMm.out; have := HE2.out; have := HB2.out; omega) hle (T0.out.pm HP3.out (Nat.le_refl _)) HT1.out HT2.out HT3.out).mono ?_; rintro e w1 ⟨rfl, ⟨f1, q1, q2, q3⟩, hk⟩; have HQ1 := hid q1; have HQ2 := hid q2; have HQ3 := hid q3; have HK3 := hid (HK2.out.trans hk); clear q1 q2 q3 hk))
              go_roundw
              case rel =>
                have h1 := HE2.out
                have h2 := HB2.out
                have h3 := HE3.out
                have hq2 := HQ2.out
                have hq3 := HQ3.out
                have h4 : e2 = a + 2 * bs := by omega
                rw [h4] at hq2 hq3
                refine ⟨e2, e3, rfl, by go_num, h3, ⟨f1, ?_, HQ1.out, HP3.out.trans (HQ2.out.mono (Nat.zero_le _) hle)⟩, HK3.out⟩
                rw [h4]
                exact HP1.out.two (by omega) hq2 hq3
              case measure => have := HE2.out; have := HB2.out; simp [intOf]; omega
            · have leI : ¬ (e2 : Int) ≤ n := by omega
              obtain ⟨m, hm⟩ : ∃ x, x = a + bs := ⟨_, rfl⟩
              have mI : (a : Int) + bs = m := by omega
              have HMm := hid hm
              by_cases hmn : m < n
              · have mnI : (m : Int) < n := by omega
                obtain ⟨t1, t2, t3⟩ := HP1.out.tags (b := n) (by omega) (Or.inr ⟨rfl, by omega⟩)
                rw [← hm] at t1 t2 t3
                have HT1 := hid t1
                have HT2 := hid t2
                have HT3 := hid t3
                clear t1 t2 t3 he2 hb2 hm
                go_wp2_with (first | (go_at_call 118; refine (sym_any HE.out eg HM.out hn n a m n f2 wr (by omega) (HC.out.at HK2.out) HP2.out (by have := HMm.out; omega) hmn (Nat.le_refl _) (T0.out.pm HP3.out (Nat.le_refl _)) HT1.out HT2.out HT3.out).mono ?_; rintro e w1 ⟨rfl, ⟨f1, q1, q2, q3⟩, hk⟩; have HQ1 := hid q1; have HQ2 := hid q2; have HQ3 := hid q3; have HK3 := hid (HK2.out.trans hk); clear q1 q2 q3 hk))
                go_roundw
                case rel =>
                  have h1 := HE2.out
                  have h2 := HB2.out
                  have h3 := HMm.out
                  refine ⟨b2, by go_num, by omega, by omega, ⟨f1, ?_, HQ1.out, HP3.out.trans (HQ2.out.mono (Nat.zero_le _) (Nat.le_refl _))⟩, HK3.out⟩
                  rw [h2]
                  exact HP1.out.last (by omega) (by omega) HQ2.out HQ3.out
                case measure => have := HB2.out; simp [intOf]; omega
              · have mnI : ¬ (m : Int) < n := by omega
                clear he2 hb2 hm
                go_wp2_with fail
                go_roundw
                case rel =>
                  have h1 := HE2.out
                  have h2 := HB2.out
                  have h3 := HMm.out
                  refine ⟨b2, by go_num, by omega, by omega, ⟨f2, ?_, HP2.out, HP3.out⟩, HK2.out⟩
                  rw [h2]
                  exact HP1.out.none (by omega) (by omega)
                case measure => have := HB2.out; simp [intOf]; omega
        · have ltI : ¬ (bs : Int) < n := by omega
          go_wp2_with fail
          first | go_end0 | refine bodyPost_ret (results_none rfl _ _ _) rfl ?_
          exact ⟨rfl, ⟨f, HF2.out, HF3.out, (HF1.out.all (by omega)).1⟩, HKo.out⟩
set_option maxRecDepth 100000 in
set_option maxHeartbeats 8000000 in
theorem sortStable_any {enc : Nat → Value} (hE : Sls enc) {g : Nat} {cb : Array Value} (eg : ∀ args w, (callFunc g args).run Try.prog w = .ok (.enter g args) w) {c : Nat → Nat → Int} (hc : Cm c) {B n cap : Nat} {w : World} (hC : Cp g cb enc B n c w) (h : Rf enc B n id w) (hn : n ≤ 1000000) : Calls Try.prog 61 #[.slice (some ⟨B, 0, none⟩) n cap, .func (.func g) #[] cb] w fun e w' => e = .returned (.tuple #[]) ∧ Done enc B n c id 0 n w w' := by
  have HS := hid (stable_any hE eg hc (cap := cap) hC h hn)
  clear hE hc hC h
  go_enter Try.func61, Try.ntmps61
  go_wp2_with (first | (go_at_call 95; refine HS.out.mono ?_; rintro e w1 ⟨rfl, hd⟩; have HD := hid hd; clear hd))
  go_end0
  exact ⟨rfl, HD.out⟩
end Go.Proofs.Ytcidijjbcebcbaa.SS
namespace Go.Proofs.Ytcidijjbcebcbaa.RO
open Go.RowKit Go.Joins Go.Sort

theorem cmp_is (x y : TN.Vl) {w : World} : Calls Try.prog 63 #[x.val, y.val] w fun e w' => e = .returned (.int .i64 (TN.cmpL x y)) ∧ TN.Grew w w' := TN.compare_any
theorem vals_regrown {w : World} {b o : Nat} {v : TN.Vl} (h : TN.CellsAt w b o v.cells) (d : Nat) (os : Array Obj) : TN.ValCells (grow (redrawn w d) os) b o v := TN.val_cells (h.on (below_regrown w d os))
theorem row_at {w : World} {v : Value} {r : TN.Rw} (h : TN.RowAt w v r) {p : Nat} (hp : p < r.length) : ∃ b o c, v = .slice (some ⟨b, o, none⟩) r.length c ∧ TN.CellsAt w b (o + p * 11) (key p r).cells := by
  obtain ⟨q, c, rfl, -, -, hx⟩ := h
  obtain ⟨b, o, rfl, -, hj⟩ := hx (by intro e; subst e; simp at hp)
  refine ⟨b, o, c, rfl, ?_⟩
  have := hj p r[p] (List.getElem?_eq_getElem hp)
  unfold key
  rwa [List.getD_eq_getElem?_getD, List.getElem?_eq_getElem hp]
set_option maxRecDepth 100000 in
set_option maxHeartbeats 4000000 in
theorem top11_any {va vb : Value} {ra rb : TN.Rw} {p bp : Nat} {w : World} (ha : TN.RowAt w va ra) (hb : TN.RowAt w vb rb) (hpa : p < ra.length) (hpb : p < rb.length) (hla : ra.length ≤ 1000000) (hlb : rb.length ≤ 1000000) (hp : w.cell? ⟨bp, 0, none⟩ = some (.int .i64 (p : Int))) : Calls Try.prog 62 #[va, vb, .pointer (some ⟨bp, 0, none⟩)] w fun e w' => e = .returned (.int .i64 (TN.cmpL (key p rb) (key p ra))) ∧ Below w.heap.size w w' := by
  obtain ⟨ba, oa, ca, rfl, ka⟩ := row_at ha hpa
  obtain ⟨bb, ob, cb, rfl, kb⟩ := row_at hb hpb
  have paI : (p : Int) < ra.length := by omega
  have pbI : (p : Int) < rb.length := by omega
  have p0 : (0 : Int) ≤ p := by omega
  have naI : (ra.length : Int) ≤ 1000000 := by omega
  have nbI : (rb.length : Int) ≤ 1000000 := by omega
  generalize ra.length = na at *
  generalize rb.length = nb at *
  generalize key p ra = x at *
  generalize key p rb = y at *
  have HCC : Hid (∀ d os, Calls Try.prog 63 #[y.val, x.val] (grow (redrawn w d) os) fun e w' => e = .returned (.int .i64 (TN.cmpL y x)) ∧ Below (grow (redrawn w d) os).heap.size (grow (redrawn w d) os) w') := fun d os => (cmp_is y x).mono fun e w' ⟨h1, h2⟩ => ⟨h1, h2.below⟩
  generalize hz : TN.cmpL y x = z at *
  have q0 : ∀ d os, (grow (redrawn w d) os).cell? ⟨bp, 0, none⟩ = some (.int .i64 (p : Int)) := fun d os => cell_regrown hp d os
  have VA := hid (fun d os => vals_regrown ka d os)
  have VB := hid (fun d os => vals_regrown kb d os)
  have a0 := fun d os => (VA.out d os).c0
  have a1 := fun d os => (VA.out d os).c1
  have a2 := fun d os => (VA.out d os).c2
  have a3 := fun d os => (VA.out d os).c3
  have a4 := fun d os => (VA.out d os).c4
  have a5 := fun d os => (VA.out d os).c5
  have a6 := fun d os => (VA.out d os).c6
  have a7 := fun d os => (VA.out d os).c7
  have a8 := fun d os => (VA.out d os).c8
  have a9 := fun d os => (VA.out d os).c9
  have a10 := fun d os => (VA.out d os).c10
  have b0 := fun d os => (VB.out d os).c0
  have b1 := fun d os => (VB.out d os).c1
  have b2 := fun d os => (VB.out d os).c2
  have b3 := fun d os => (VB.out d os).c3
  have b4 := fun d os => (VB.out d os).c4
  have b5 := fun d os => (VB.out d os).c5
  have b6 := fun d os => (VB.out d os).c6
  have b7 := fun d os => (VB.out d os).c7
  have b8 := fun d os => (VB.out d os).c8
  have b9 := fun d os => (VB.out d os).c9
  have b10 := fun d os => (VB.out d os).c10
  clear ha hb hpa hpb ka kb hp hz hla hlb VA VB
  go_enter Try.func62, Try.ntmps62
  go_wp2_with fail
  refine wp_region_quiet_below (by kernel_rfl) (by kernel_rfl) ?_
  repeat (go_big_quiet_step (first | (go_at_call 63; exact Calls.regrown_of (HCC.out _ _))))
  refine wpQuiet_nil ?_
  intro _ hw'
  obtain ⟨⟨dq, osq⟩, hw''⟩ := hw'
  subst hw''
  go_wp2
  go_ret
  exact ⟨rfl, below_regrown w dq osq⟩
end Go.Proofs.Ytcidijjbcebcbaa.RO
namespace Go.Proofs.Ytcidijjbcebcbaa.RO
open Go.RowKit Go.Joins Go.Sort

def runE (cs : List TN.Cl) (rs : List TN.Rw) (mb : Bool) : Int := if TN.checkV cs rs = 0 then if mb = true then 0 else 1 else TN.checkV cs rs
def okE (cs : List TN.Cl) (rs : List TN.Rw) (mb : Bool) : Bool := decide (TN.checkV cs rs = 0) && mb
/- A table that is told beside an error's number: none where there is an error. -/
def TabE (b : Bool) (w w' : World) (v : Value) (cs : List TN.Cl) (rs : List TN.Rw) : Prop := TN.TabIn (fun k => w.heap.size ≤ k) w' v (if b then cs else []) (if b then rs else [])
theorem TabE.no {w w' : World} (cs : List TN.Cl) (rs : List TN.Rw) : TabE false w w' (.agg #[.slice none 0 0, .slice none 0 0]) cs rs := ⟨_, _, rfl, TN.SlAt.nil _ _ _ _, [], TN.SlAt.nil _ _ _ _, rfl, fun j h r h1 => by simp at h1⟩
set_option maxRecDepth 100000 in
set_option maxHeartbeats 4000000 in
theorem run_any {tv : Value} {cs cs' : List TN.Cl} {rs rs' : List TN.Rw} {mb : Bool} {g : Nat} {cb : Array Value} {w : World} (ht : TN.TabAt w tv cs rs) (eg : ∀ args w, (callFunc g args).run Try.prog w = .ok (.enter g args) w) (hst : mb = true → TN.checkV cs rs = 0 → ∀ W, Below w.heap.size w W → Calls Try.prog g cb W fun e w' => ∃ v', e = .returned v' ∧ TN.TabAt w' v' cs' rs' ∧ Below W.heap.size W w') :
    Calls Try.prog 58 #[tv, .bool mb, .func (.func g) #[] cb] w fun e w' => ∃ v', e = .returned (.tuple #[v', .int .i64 (runE cs rs mb)]) ∧ TabE (okE cs rs mb) w w' v' cs' (TN.sortR rs') ∧ Below w.heap.size w w' := by
  obtain ⟨c, rv, rfl, hc, hs, hr, hh⟩ := ht
  have HT := hid (show TN.TabAt w (.agg #[c, rv]) cs rs from ⟨c, rv, rfl, hc, hs, hr, hh⟩)
  have HST := hid hst
  obtain ⟨pc, cc, rfl, -⟩ := id hc
  obtain ⟨pr, cr, rfl, -⟩ := id hr
  clear hc hr hh hst
  generalize cs.length = nc at *
  generalize hs.length = nr at *
  have HCK := hid (fun W (hb : Below w.heap.size w W) => TN.check_any (HT.out.on hb))
  unfold runE okE
  generalize hz : TN.checkV cs rs = z at *
  clear hz
  obtain ⟨O0, hO0⟩ : ∃ O, O = Obj.cells #[.slice pc nc cc, .slice pr nr cr] 28 (0, 0) := ⟨_, rfl⟩
  obtain ⟨O1, hO1⟩ : ∃ O, O = Obj.cells #[.slice none 0 0, .slice none 0 0] 28 (0, 0) := ⟨_, rfl⟩
  have HB := hid (((Below.refl w.heap.size w).alloc (Nat.le_refl _) O0).alloc (by simp) O1)
  have K0 := hid (block_on (alloc_block w O0) ((Below.refl _ _).alloc (Nat.le_refl _) O1))
  have K1 := hid (TN.alloc_blk2 w O0 O1)
  obtain ⟨W, hW⟩ : ∃ W, W = (w.alloc O0).alloc O1 := ⟨_, rfl⟩
  rw [← hW] at HB K0 K1
  rw [hO0] at K0
  rw [hO1] at K1
  have HW := hid hW
  rw [hO0, hO1] at HW
  have k0 := block_cell K0.out
  have lW := lt_of_block K1.out
  clear hW hO0 hO1
  go_enter Try.func58, Try.ntmps58
  go_upto_region 1 with fail
  rw [← HW.out]
  clear HW
  by_cases hz : z = 0
  · subst hz
    cases mb with
    | false =>
      go_wp2_with (first | (go_at_call 68; refine (HCK.out W HB.out).mono ?_; rintro e w1 ⟨rfl, hb⟩; have HB1 := hid hb; have K11 := hid (block_on K1.out hb); have k11 := block_cell K11.out; have f11 := block_frozen K11.out; clear hb))
      refine bodyPost_ret (v := .tuple #[.agg #[.slice none 0 0, .slice none 0 0], .int .i64 1]) ?hv1 rfl ⟨_, rfl, ?ht1, ?hb1⟩
      case hv1 =>
        have KF := block_set (block_set K11.out 0 (.slice none 0 0)) 1 (.slice none 0 0)
        clear k11 f11
        generalize ((w1.setCell ⟨w.heap.size + 1, 0, none⟩ (.slice none 0 0)).setCell ⟨w.heap.size + 1, 1, none⟩ (.slice none 0 0)) = WF at KF ⊢
        have kcf := block_cell KF
        clear KF
        simp [results, Try.results58, go_sem, kcf]
      case ht1 => exact TabE.no _ _
      case hb1 => exact TN.below_set (TN.below_set (TN.below_on HB.out HB1.out) (by omega)) (by omega)
    | true =>
      have HS := hid (HST.out rfl rfl)
      clear HST
      go_wp2_with (first
        | (go_at_call 68; refine (HCK.out W HB.out).mono ?_; rintro e w1 ⟨rfl, hb⟩; have HB1 := hid (TN.below_on HB.out hb); have K1a := hid (block_on K1.out hb); clear hb)
        | (go_at_fn g; refine (HS.out w1 HB1.out).mono ?_; rintro e w2 ⟨v2, rfl, ht2, hb2⟩; have HT2 := hid ht2; have HB2 := hid (TN.below_on HB1.out hb2); have K1b := hid (block_on K1a.out hb2); obtain ⟨c2, r2, rfl, ⟨pc2, capc2, rfl, -⟩, hs2, ⟨pr2, capr2, rfl, -⟩, -⟩ := ht2; clear hb2)
        | (go_at_call 60; refine (TN.canon_w HT2.out).mono ?_; rintro e w3 ⟨v3, rfl, ht3, hb3⟩; have HT3 := hid ht3; have HB3 := hid (TN.below_on HB2.out hb3); have K11 := hid (block_on K1b.out hb3); have k11 := block_cell K11.out; have f11 := block_frozen K11.out; obtain ⟨pc3, cc3, b3, rfl⟩ := ht3.form; clear hb3))
      refine bodyPost_ret (v := .tuple #[.agg #[.slice pc3 cs'.length cc3, (.slice (some ⟨b3, 0, none⟩) (TN.sortR rs').length (TN.sortR rs').length)], .int .i64 0]) ?hv2 rfl ⟨_, rfl, ?ht2, ?hb2⟩
      case hv2 =>
        have KF := block_set (block_set K11.out 0 (.slice pc3 cs'.length cc3)) 1 ((.slice (some ⟨b3, 0, none⟩) (TN.sortR rs').length (TN.sortR rs').length))
        clear k11 f11
        generalize ((w3.setCell ⟨w.heap.size + 1, 0, none⟩ (.slice pc3 cs'.length cc3)).setCell ⟨w.heap.size + 1, 1, none⟩ ((.slice (some ⟨b3, 0, none⟩) (TN.sortR rs').length (TN.sortR rs').length))) = WF at KF ⊢
        have kcf := block_cell KF
        clear KF
        simp [results, Try.results58, go_sem, kcf]
      case ht2 =>
        have s2 := lt_of_block K1b.out
        have sW := HB.out.size
        have ht9 := TN.TabW.set (R := w.heap.size + 1) (i := 1) (u := .slice (some ⟨b3, 0, none⟩) (TN.sortR rs').length (TN.sortR rs').length) (fun b hb => by have : w2.heap.size ≤ b := hb; omega) (by omega) (TN.TabW.set (R := w.heap.size + 1) (i := 0) (u := .slice pc3 cs'.length cc3) (fun b hb => by have : w2.heap.size ≤ b := hb; omega) (by omega) HT3.out)
        exact ht9.tab.imp (fun b hb => by rcases hb with hb | hb <;> (have : w2.heap.size ≤ b := hb; omega))
      case hb2 => exact TN.below_set (TN.below_set HB3.out (by omega)) (by omega)
  · have zb : (z != 0) = true := by simp; exact hz
    have zb2 : ¬ z = 0 := hz
    go_wp2_with (first | (go_at_call 68; refine (HCK.out W HB.out).mono ?_; rintro e w1 ⟨rfl, hb⟩; have HB1 := hid hb; have K11 := hid (block_on K1.out hb); have k11 := block_cell K11.out; have f11 := block_frozen K11.out; clear hb))
    refine bodyPost_ret (v := .tuple #[.agg #[.slice none 0 0, .slice none 0 0], .int .i64 z]) ?hv3 rfl ⟨_, rfl, ?ht3, ?hb3⟩
    case hv3 =>
      have KF := block_set (block_set K11.out 0 (.slice none 0 0)) 1 (.slice none 0 0)
      clear k11 f11
      generalize ((w1.setCell ⟨w.heap.size + 1, 0, none⟩ (.slice none 0 0)).setCell ⟨w.heap.size + 1, 1, none⟩ (.slice none 0 0)) = WF at KF ⊢
      have kcf := block_cell KF
      clear KF
      simp [results, Try.results58, go_sem, kcf]
    case ht3 => exact TabE.no _ _
    case hb3 => exact TN.below_set (TN.below_set (TN.below_on HB.out HB1.out) (by omega)) (by omega)
end Go.Proofs.Ytcidijjbcebcbaa.RO
namespace Go.Proofs.Ytcidijjbcebcbaa.RO
open Go.RowKit Go.Joins Go.Sort

theorem rowKp {Q T : Nat → Prop} {w w' : World} {v : Value} {r : TN.Rw} (h : TN.RowIn Q w v r) (hk : Kp T w w') (ht : ∀ b, Q b → ¬ T b) : TN.RowIn Q w' v r := by
  obtain ⟨p, cap, hv, hc, hm, hx⟩ := h
  exact ⟨p, cap, hv, hc, hm, fun hne => let ⟨b, o, hp, hQ, hj⟩ := hx hne; ⟨b, o, hp, hQ, fun j x hjx i u hu => hk.cell (hj j x hjx i u hu) (ht b hQ.1)⟩⟩
/- The rows of a sorted row of heads, the first m of them. -/
theorem rf_tab {Q : Nat → Prop} {hs : List Value} {S : List TN.Rw} {B k m p : Nat} {g : Nat → Nat} {w : World} (hS : TN.upR S) (hh : TN.HeadsIn Q w hs S) (hr : SS.Rf (TN.encH hs) B k g w) (hk : S.length = k) (hp : SS.Pm 0 k id g) (hu : SS.up (cAt p S) g 0 k) (hm : m ≤ k) (hb : k * 24 ≤ 140737488355328) : TN.RowsAt w (.slice (some ⟨B, 0, none⟩) m k) ((topL p S).take m) := by
  subst hk
  have e : (topL p S).take m = (List.range m).map (fun i => row S (g i)) := by
    rw [← sorted_top hS hp hu, ← List.map_take, List.take_range, Nat.min_eq_left hm]
  rw [e]
  refine ⟨(List.range m).map (fun i => TN.encH hs (g i)), ⟨some ⟨B, 0, none⟩, S.length, by simp, ⟨by simpa using hm, fun e => by cases e⟩, by simp only [List.length_map, List.length_range]; unfold maxLen; omega, fun _ => ⟨B, 0, rfl, ⟨trivial, by simp only [List.length_map, List.length_range]; unfold TN.bsz; rw [if_neg (by decide)]; omega⟩, fun j x hj i u hu => ?_⟩⟩, by simp, fun j x r h1 h2 => ?_⟩
  · rw [List.getElem?_map] at hj
    obtain ⟨y, hy, rfl⟩ := Option.map_eq_some_iff.1 hj
    have hjm : j < m := by have := (List.getElem?_eq_some_iff.1 hy).1; simpa using this
    rw [List.getElem?_range hjm] at hy
    cases hy
    match i, hu with
    | 0, hu =>
      simp [TN.one] at hu
      subst hu
      have := hr.cell (i := j) (by omega)
      simpa using this
    | i + 1, hu => simp [TN.one] at hu
  · rw [List.getElem?_map] at h1 h2
    obtain ⟨y, hy, rfl⟩ := Option.map_eq_some_iff.1 h1
    obtain ⟨y', hy', rfl⟩ := Option.map_eq_some_iff.1 h2
    rw [hy] at hy'
    cases hy'
    exact (TN.heads_get hh (g y)).imp fun _ _ => trivial
theorem rows_len {cs : List TN.Cl} {rs : List TN.Rw} (h : TN.checkV cs rs = 0) : cs.length ≤ 16 ∧ ∀ r ∈ rs, r.length = cs.length := by
  unfold TN.checkV at h
  by_cases h1 : TN.colsB cs = true
  · rw [if_pos h1] at h
    by_cases h2 : rs.all (TN.rowB cs) = true
    · refine ⟨?_, fun r hr => ?_⟩
      · unfold TN.colsB at h1; exact (of_decide_eq_true h1).1.2
      · have := List.all_eq_true.1 h2 r hr
        unfold TN.rowB at this; exact (of_decide_eq_true this).1
    · rw [if_neg h2] at h; omega
  · rw [if_neg h1] at h; omega
theorem cp_of {hs : List Value} {S : List TN.Rw} {B p bp : Nat} {w : World} (hh : TN.HeadsIn (fun b => B < b) w hs S) (hp : ∀ r ∈ S, p < r.length ∧ r.length ≤ 1000000) (hc : w.cell? ⟨bp, 0, none⟩ = some (.int .i64 (p : Int))) (hne : bp ≠ B) : SS.Cp 62 #[.pointer (some ⟨bp, 0, none⟩)] (TN.encH hs) B S.length (cAt p S) w := by
  intro w' hk x y hx hy
  have row_in : ∀ i, i < S.length → TN.RowAt w' (TN.encH hs i) (row S i) ∧ p < (row S i).length ∧ (row S i).length ≤ 1000000 := fun i hi => by
    have h1 := rowKp (TN.heads_get hh i) hk (fun b hb e => by have : b = B := e; omega)
    have h2 := hp (row S i) (by rw [row_get hi]; exact List.getElem_mem hi)
    exact ⟨h1.imp fun _ _ => trivial, h2⟩
  obtain ⟨a1, a2, a3⟩ := row_in x hx
  obtain ⟨b1, b2, b3⟩ := row_in y hy
  exact top11_any a1 b1 a2 b2 a3 b3 (hk.cell hc hne)
theorem sls_of {Q : Nat → Prop} {hs : List Value} {S : List TN.Rw} {w : World} (hh : TN.HeadsIn Q w hs S) : SS.Sls (TN.encH hs) := fun i => by
  obtain ⟨q, c, e, -⟩ := TN.heads_get hh i
  exact ⟨q, _, c, e⟩
theorem rf_start {hs : List Value} {B k : Nat} {w : World} (h : w.heap[B]? = some (.cells hs.toArray 33 (0, 0))) (hk : hs.length = k) : SS.Rf (TN.encH hs) B k id w := by
  subst hk
  refine ⟨hs.toArray, h, by simp, fun i hi => ?_⟩
  unfold TN.encH
  rw [List.getD_eq_getElem?_getD, List.getElem?_toArray, id, List.getElem?_eq_getElem hi]; rfl
theorem enters_top11 : ∀ args w, (callFunc 62 args).run Try.prog w = .ok (.enter 62 args) w := enters_of Try.func62 (by kernel_rfl) rfl
end Go.Proofs.Ytcidijjbcebcbaa.RO
