/-
  The reference's reader: a test.
  The reference's reader takes aggregates: what it keeps.
  The reference's reader takes aggregates.
  The reference's reader takes a query: mathematics.
  The reference's reader takes a query.
  The reference's reader takes a step: what is kept, and mathematics.
  The reference's step: where.
  The reference's step: keep, align.
  The reference's step: top, and what is none.
  The reference's step: what is none, and group.
  The reference's step: join, union.
-/
import Derived.Test.YtopjpkkidjlbeaaKE18
import Derived.Deep.RegionLaw
namespace Go.Proofs.Ytopjpkkidjlbeaa
open Go.RowKit Go.Joins

section
variable {B : Nat} {ts : List Tp} {w w' : World} {rb : Nat} {tv sv : Value} {E : Int} {o i : Nat} {qs : List Nd}
set_option maxRecDepth 100000 in
set_option maxHeartbeats 2000000 in
theorem rnot_test {d : Option PN} (h : Ry B ts w rb tv sv 0 o i qs) (hn : isW ts i wNot = false) (hw : isW ts i wOpen = false) : Calls Try.prog 96 #[dp rb] w (Y2 B ts rb tv sv o w (lf 0 i (notB ts d i (qs.map (·.np))))) := by
  have k0 := h.cell
  have HQL := hid h.ql
  have HLt := hid h.lt
  have HN := hid hn
  have HW := hid hw
  have HS := hid (rsees_no h (x := wNot) hn)
  have hf1 := fld1
  have M1 : Hid True := trivial
  generalize hT : lf 0 i (notB ts d i (qs.map (·.np))) = T at *
  have HTt := hid hT
  clear h hw hn hT
  go_enter Try.func96, Try.ntmps96
  go_upto_region 15 with (first
    | (refine store_nd (q := bare { n0 with kind := 14, s := t3.s }) rfl _ _ rfl rfl rfl (bare_all _) (alloc_block w3 _) rfl ?_; intro w4 h4 k4; have HB4 := hid (Bn.start2 HQ3.out HK3.out.r (At.refl w sv) HLt.out h4 k4); clear h4 k4)
    | (go_at_call 75; have FIRST := M1; refine HS.out.mono ?_; rintro e w1 ⟨rfl, hq, hk⟩; have HQ1 := hid hq; have HK1 := hid hk; clear hq hk M1 FIRST)
    | (go_at_call 75; refine (rsees_no HQ1.out (x := wOpen) HW.out).mono ?_; rintro e w2 ⟨rfl, hq, hk⟩; have HQ2 := hid hq; have HK2 := hid (HK1.out.trans hk); clear hq hk)
    | (go_at_call 113; refine (rkind_any HQ2.out 1).mono ?_; rintro e w3 ⟨hk, t3, v3, E3, j3, rfl, hv3, hq, hc⟩; obtain rfl := hv3; have HK3 := hid (HK2.out.trans hk); have HQ3 := hid hq; have HC3 := hid hc; clear hk hq hc))
  clear HS HQ1 HK1 HQ2 HK2 HQ3 HK3 k0
  generalize w3.heap.size = nb at *
  cases hh : isE E3 ts j3 wHas with
  | true =>
    have HH := hid hh
    clear hh
    go_wp2_with (first
      | (refine store_nv (c := (2, 0, t7.s)) rfl _ _ rfl rfl rfl HB7.out.b ?_; intro w8 h8 k8; have HB8 := hid (HB7.out.set (q' := bare { n0 with kind := 15, s := t3.s, vk := 2, vn := 0, vs := t7.s }) h8 k8); clear h8 k8)
      | (refine load_node (q := bare { n0 with kind := 15, s := t3.s, vk := 2, vn := 0, vs := t7.s }) rfl _ rfl rfl HB8.out.b ?_)
      | (go_at_call 75; refine (rsees_yes HB4.out.r (x := wHas) HH.out).mono ?_; rintro e w5 ⟨rfl, hq, hk⟩; have HB5 := hid (HB4.out.y1 hk hq); have HB6 := hid (HB5.out.set1 (q' := bare { n0 with kind := 15, s := t3.s }) 0 (.int .i64 15) (by kernel_rfl)); have c5 := block_cell HB5.out.b 0; have z5 := block_frozen HB5.out.b 0; clear hq hk)
      | (go_at_call 113; clear c5 z5; refine (rkind_any HB6.out.r 3).mono ?_; rintro e w7 ⟨hk, t7, v7, E7, j7, rfl, hv7, hq, hc⟩; obtain rfl := hv7; have HB7 := hid (HB6.out.y1 hk hq); have HC7 := hid hc; clear hk hq hc)
      | (go_at_call 76; refine (rlay_any HB8.out.r (bare_in _ _ rfl rfl rfl) (fun e => by have h1 := take_ok HC7.out e; have h2 := take_ok HC3.out h1.1; have := HQL.out; omega)).mono ?_; rintro e w9 ⟨hk, z9, E9, j9, sv9, qs9, rfl, hz9, hq, ha, hc⟩; have HB9 := hid (HB8.out.y2 hk ha hq); have HC9 := hid hc; have HZ9 := hid hz9; clear hk hq hc ha hz9))
    go_ret
    refine ⟨HB9.out.k, z9, E9, j9, sv9, qs9, rfl, HZ9.out, HB9.out.r, HB9.out.a, ?_⟩
    rw [← HTt.out]
    exact test_has HN.out HW.out HC3.out HH.out HC7.out (by have := HC9.out; simpa using this)
  | false =>
    have HH := hid hh
    clear hh
    go_upto_region 20 with (go_at_call 75; refine (rsees_no HB4.out.r (x := wHas) HH.out).mono ?_; rintro e w5 ⟨rfl, hq, hk⟩; have HB5 := hid ((HB4.out.y1 hk hq).on ((Below.refl _ _).alloc (Nat.le_refl _) (.cells hwC 9))); have HG := hid (alloc_block w5 (.cells hwC 9)); have HNr : Hid (w5.heap.size ≠ rb) := (fun e => by have := hq.lt; omega); have HNn : Hid (w5.heap.size ≠ nb) := (fun e => by have := lt_of_block (HB4.out.y1 hk hq).b; omega); clear hq hk)
    generalize w5.alloc (.cells hwC 9) = W5 at *
    generalize w5.heap.size = sg at *
    clear HB4
    go_upto_region 21 with fail
    go_loopw [7] (fun u wr => ∃ (k N j : Nat), u = .int .i64 k ∧ (1 : Int) ≤ k ∧ (k : Int) ≤ 7 ∧ Hid (LpS ts E3 j3 k N j) ∧ Hid (Bn B ts w rb tv sv sv E3 o j qs nb (bare { n0 with kind := 14, s := t3.s, n := (N : Int) }) wr) ∧ Hid (wr.heap[sg]? = some (.cells hwC 9))) (fun u _ => 7 - (intOf u).toNat)
    case atStart => exact ⟨1, 0, j3, rfl, by omega, by omega, .inl ⟨rfl, rfl, fun m hm => by omega⟩, HB5.out, HG.out⟩
    case round =>
      obtain ⟨k, N, j, rfl, hk1, hk7, HL, HBr, HGr⟩ := hrel
      clear HB5 HG
      by_cases hN : N = 0
      · subst hN
        have cN : wr.cell? ⟨nb, 2, none⟩ = some (.int .i64 0) := block_cell HBr.out.b 2
        by_cases h7 : k < 7
        · have kI : (k : Int) < 7 := by omega
          have k0 : (0 : Int) ≤ k := by omega
          have cS := (block_cell HGr.out k).trans (hwC_at k (by omega) h7)
          have H7 := hid h7
          have HJ := hid (lps_at HL.out)
          cases hs : isE E3 ts j3 (howW.getD (k - 1) []) with
          | true =>
            have HSs := hid hs
            have HLy := hid (lps_yes HL.out (by omega) h7 hs)
            clear hs h7
            go_wp2_with (go_at_call 75; refine (rsees_yes HBr.out.r (x := howW.getD (k - 1) []) (by rw [HJ.out]; exact HSs.out)).mono ?_; rintro e w6 ⟨rfl, hq, hk⟩; have HB6 := hid (HBr.out.y1 hk hq); have HG6 := hid (hk.blk HGr.out HNr.out); have c6 := block_cell HB6.out.b 2; have z6 := block_frozen HB6.out.b 2; clear hq hk)
            go_roundw
            case rel => exact ⟨k + 1, k, j + 1, by simp, by omega, by omega, HLy.out, HB6.out.set1 (q' := bare { n0 with kind := 14, s := t3.s, n := (k : Int) }) 2 (.int .i64 k) (by kernel_rfl), (Kp.set (T := fun x => x = nb) rfl _).blk HG6.out HNn.out⟩
            case measure => simp [intOf]; have := H7.out; omega
          | false =>
            have HSs := hid hs
            have HLn := hid (lps_no HL.out hs)
            clear hs h7
            go_wp2_with (go_at_call 75; refine (rsees_no HBr.out.r (x := howW.getD (k - 1) []) (by rw [HJ.out]; exact HSs.out)).mono ?_; rintro e w6 ⟨rfl, hq, hk⟩; have HB6 := hid (HBr.out.y1 hk hq); have HG6 := hid (hk.blk HGr.out HNr.out); clear hq hk)
            go_roundw
            case rel => exact ⟨k + 1, 0, j, by simp, by omega, by omega, HLn.out, HB6.out, HG6.out⟩
            case measure => simp [intOf]; have := H7.out; omega
        · obtain rfl : k = 7 := by omega
          clear h7 hk1 hk7
          go_wp2_with (go_at_call 77; refine (rfail_any HBr.out.r).mono ?_; rintro e w6 ⟨rfl, hq, hk⟩; have HB6 := hid (HBr.out.y1 hk hq); clear hq hk)
          go_ret
          refine ⟨HB6.out.k, 0, _, _, sv, qs, rfl, by omega, HB6.out.r, HB6.out.a, ?_⟩
          rw [← HTt.out]
          exact test_none HN.out HW.out HC3.out HH.out HL.out
      · have cN : wr.cell? ⟨nb, 2, none⟩ = some (.int .i64 (N : Int)) := block_cell HBr.out.b 2
        have N0 : ((N : Int) == 0) = false := by simp; omega
        have HNp : Hid (0 < N) := Nat.pos_of_ne_zero hN
        have dk : decide ((k : Int) < 7) = true ∨ decide ((k : Int) < 7) = false := by cases decide ((k : Int) < 7) <;> simp
        clear hN
        rcases dk with dk | dk
        all_goals
          (go_wp2_with (first
            | (refine store_nv (c := x7) rfl _ _ rfl rfl rfl HB7.out.b ?_; intro w8 h8 k8; have HB8 := hid (HB7.out.set (q' := bare { n0 with kind := 14, s := t3.s, n := (N : Int), vk := x7.1, vn := x7.2.1, vs := x7.2.2 }) h8 k8); clear h8 k8)
            | (refine load_node (q := bare { n0 with kind := 14, s := t3.s, n := (N : Int), vk := x7.1, vn := x7.2.1, vs := x7.2.2 }) rfl _ rfl rfl HB8.out.b ?_)
            | (go_at_call 114; refine (rvalue_any HBr.out.r).mono ?_; rintro e w7 ⟨hk, x7, v7, E7, j7, rfl, hv7, hq, hc⟩; obtain rfl := hv7; have HB7 := hid (HBr.out.y1 hk hq); have HC7 := hid hc; clear hk hq hc)
            | (go_at_call 76; refine (rlay_any HB8.out.r (bare_in _ _ rfl rfl rfl) (fun e => by have h1 := value_len HC7.out e; have h2 := lps_ge HL.out; have := HQL.out; have := HBr.out.r.ql; omega)).mono ?_; rintro e w9 ⟨hk, z9, E9, j9, sv9, qs9, rfl, hz9, hq, ha, hc⟩; have HB9 := hid (HB8.out.y2 hk ha hq); have HC9 := hid hc; have HZ9 := hid hz9; clear hk hq hc ha hz9))
           go_ret
           refine ⟨HB9.out.k, z9, E9, j9, sv9, qs9, rfl, HZ9.out, HB9.out.r, HB9.out.a, ?_⟩
           rw [← HTt.out]
           exact test_cmp HN.out HW.out HC3.out HH.out HL.out HNp.out HC7.out (by have := HC9.out; simpa using this))
/- The smallest conditions, and all conditions, at any depth. -/
theorem rnot_any {d : Option PN} (hd : DeepY 96 B ts rb tv o d) (h : Ry B ts w rb tv sv E o i qs) : Calls Try.prog 96 #[dp rb] w (Y2 B ts rb tv sv o w (lf E i (notB ts d i (qs.map (·.np))))) := by
  by_cases hE : E = 0
  · subst hE
    cases hn : isW ts i wNot with
    | true => exact rnot_not hd h hn
    | false =>
      cases hw : isW ts i wOpen with
      | true => exact rnot_open hd h hn hw
      | false => exact rnot_test h hn hw
  · refine (rnot_err h hE).mono ?_
    rintro e w' ⟨rfl, rfl⟩
    exact ⟨Kp.refl _ _, 0, E, i, sv, qs, rfl, by omega, h, At.refl _ _, .inl ⟨if_neg hE, hE⟩⟩
theorem rnotS : ∀ n : Nat, n ≤ 16 → PNy 96 B ts rb tv (16 - n) (notS ts n)
  | 0, _ => fun _ _ _ _ _ _ h => rnot_any (d := none) (show 16 - 0 = 16 from rfl) h
  | n + 1, hn => fun _ _ _ _ _ _ h => rnot_any (d := some (notS ts n)) ⟨by omega, by rw [show 16 - (n + 1) + 1 = 16 - n by omega]; exact rnotS n (by omega), not_go ts n⟩ h
theorem rcondS (n : Nat) (hn : n ≤ 16) : PNy 46 B ts rb tv (16 - n) (condS ts n) := rcondB_any (rnotS n hn) (not_go ts n)
end
end Go.Proofs.Ytopjpkkidjlbeaa
namespace Go.Proofs.Ytopjpkkidjlbeaa
open Go.RowKit Go.Joins

abbrev agC : Array Value := #[.string ⟨#[]⟩, .string ⟨#[99, 111, 117, 110, 116]⟩, .string ⟨#[115, 117, 109]⟩, .string ⟨#[109, 105, 110]⟩, .string ⟨#[109, 97, 120]⟩, .string ⟨#[109, 101, 97, 110]⟩, .string ⟨#[109, 101, 114, 103, 101]⟩]
theorem agC_at (k : Nat) (h1 : 1 ≤ k) (h : k < 7) : agC[k]? = some (.string (St (aggW.getD (k - 1) []))) := by
  match k, h1, h with
  | 1, _, _ => rfl
  | 2, _, _ => rfl
  | 3, _, _ => rfl
  | 4, _, _ => rfl
  | 5, _, _ => rfl
  | 6, _, _ => rfl
section
variable {B : Nat} {ts : List Tp} {w w' wr : World} {rb : Nat} {tv sv : Value} {E E' Ej : Int} {o o' i j j' : Nat} {qs : List Nd} {sg : Nat} {u : Value} {acc : List (Int × List UInt8)}
structure Ag (B : Nat) (ts : List Tp) (w : World) (rb : Nat) (tv sv : Value) (E : Int) (o j : Nat) (qs : List Nd) (sg : Nat) (u : Value) (acc : List (Int × List UInt8)) (wr : World) : Prop where
  r : Ry B ts wr rb tv sv E o j qs
  ow : Own ag2 2 172 w.heap.size wr u acc
  k : Kp (fun k => k = rb) w wr
  b : wr.heap[sg]? = some (.cells agC 9)
  n : w.heap.size ≤ sg
  l : rb < w.heap.size
theorem Ag.ne (h : Ag B ts w rb tv sv E o j qs sg u acc wr) : sg ≠ rb := by have := h.n; have := h.l; omega
theorem Ag.y1 (h : Ag B ts w rb tv sv E o j qs sg u acc wr) (hk : Kp (fun k => k = rb) wr w') (hr : Ry B ts w' rb tv sv E' o' j' qs) : Ag B ts w rb tv sv E' o' j' qs sg u acc w' :=
  ⟨hr, h.ow.rdy h.r hk (by decide), h.k.trans hk, hk.blk h.b h.ne, h.n, h.l⟩
theorem Ag.on (h : Ag B ts w rb tv sv E o j qs sg u acc wr) (hb : Below wr.heap.size wr w') : Ag B ts w rb tv sv E o j qs sg u acc w' := h.y1 (Kp.of hb) (h.r.on hb)
theorem Ag.new {T : Nat → Prop} (h : Ag B ts w rb tv sv E o j qs sg u acc wr) (hk : Kp T wr w') (hT : ∀ k, T k → w.heap.size ≤ k) (hs : ¬ T sg) {v : Value} {acc' : List (Int × List UInt8)} (ho : Own ag2 2 172 w.heap.size w' v acc') (hr : Ry B ts w' rb tv sv E o j qs) : Ag B ts w rb tv sv E o j qs sg v acc' w' :=
  ⟨hr, ho, h.k.trans' hk (fun i hi e => by have := hT i e; omega), hk.blk h.b hs, h.n, h.l⟩
theorem Ag.app {w7 : World} {E0 : Int} {o0 i0 : Nat} {v : Value} {acc' : List (Int × List UInt8)} (h0 : Ry B ts w rb tv sv E0 o0 i0 qs) (h : Ag B ts w rb tv sv E o j qs sg u acc wr) (hb : Below wr.heap.size wr w') (hg : w'.grownBy w7 u.ownBlock) (ho : Own ag2 2 172 w.heap.size w7 v acc') : Ag B ts w rb tv sv E o j qs sg v acc' w7 := by
  have k7 : Kp (fun k => w.heap.size ≤ k) wr w7 := (Kp.of hb).trans (Kp.grown hg (fun k e => (h.ow.at e).1))
  obtain ⟨a, b⟩ := Ry.backN h0 h.r h.k k7
  exact ⟨a, ho, b, (Kp.grown (T := fun k => u.ownBlock = some k) hg (fun k e => e)).blk (block_on h.b hb) (fun e => by obtain ⟨c, fz, hc⟩ := h.ow.kind e; rw [h.b] at hc; cases hc), h.n, h.l⟩
theorem Ag.box {E0 : Int} {o0 i0 ab c : Nat} {v : Value} (h0 : Ry B ts w rb tv sv E0 o0 i0 qs) (h : Ag B ts w rb tv sv E o j qs sg u acc wr) (hab : w.heap.size ≤ ab) (hu : ∀ g, u.ownBlock = some g → g ≠ ab) (hs : sg ≠ ab) : Ag B ts w rb tv sv E o j qs sg u acc (wr.setCell ⟨ab, c, none⟩ v) := by
  obtain ⟨a, b⟩ := Ry.backN h0 h.r h.k (Kp.set (T := fun k => w.heap.size ≤ k) (b := ab) (i := c) hab v)
  have ks : Kp (fun k => k = ab) wr (wr.setCell ⟨ab, c, none⟩ v) := Kp.set (T := fun k => k = ab) rfl v
  exact ⟨a, h.ow.kp ks hu, b, ks.blk h.b hs, h.n, h.l⟩
theorem Ag.own_lt (h : Ag B ts w rb tv sv E o j qs sg u acc wr) : ∀ g, u.ownBlock = some g → g ≠ wr.heap.size := fun g hg e => by have h1 : g < wr.heap.size := (h.ow.at hg).2; omega
/- Mathematics: one round. -/
def InvA (ts : List Tp) (E : Int) (i f : Nat) (acc : List (Int × List UInt8)) (Ej : Int) (j : Nat) : Prop :=
  ∀ y k E', Cm (lf Ej j ((aggS ts j).and fun x j' => moreS ts (aggS ts) f (acc ++ [x]) j')) y k E' → Cm (lf E i (listS ts (aggS ts) i)) y k E'
theorem inva_start : InvA ts E i ts.length [] E i := fun _ _ _ h => h
/- None of the words stands there. -/
theorem inva_none {f : Nat} (h : InvA ts E i f acc Ej j) (hn : ∀ m, m < 6 → isE Ej ts j (aggW.getD m []) = false) (y : List (Int × List UInt8)) : Cm (lf E i (listS ts (aggS ts) i)) y j (erS Ej 120) := by
  apply h
  by_cases hE : Ej = 0
  · subst hE
    have e : aggS ts j = .bad j 120 := by
      unfold aggS oneOfS
      rw [idx_nil aggW 0 (fun m hm => isE_false (hn m hm) rfl)]; rfl
    rw [e]; exact erS_lf
  · have : erS Ej 120 = Ej := if_neg hE
    rw [this]; exact lf_bad hE
/- A word stands there. -/
theorem agg_at {k : Nat} (hk : 1 ≤ k) (hk7 : k < 7) (hn : ∀ m, m < k - 1 → isE 0 ts j (aggW.getD m []) = false) (hy : isW ts j (aggW.getD (k - 1) []) = true) : aggS ts j = if k = 1 then .ok (1, []) (j + 1) else (nameS ts (j + 1)).and fun x j => .ok ((k : Int), x) j := by
  unfold aggS oneOfS
  rw [idx_first aggW 0 (k - 1) (by show k - 1 < 6; omega) (fun m hm => isE_false (hn m hm) rfl) hy, Nat.zero_add]
  simp only [Rs.and]
  by_cases h : k = 1
  · subst h; rfl
  · rw [if_neg h, if_neg (by omega)]
    have e : (1 : Int) + ((k - 1 : Nat) : Int) = (k : Int) := by omega
    rw [e]
/- Behind a whole aggregate. -/
theorem inva_next {f j2 : Nat} {x : Int × List UInt8} {E2 : Int} (h : InvA ts E i f acc 0 j) (ha : Cm (aggS ts j) x j2 E2) (hw : isE E2 ts j2 wComma = true) (hf : ts.length ≤ f + j) (hj : j < j2) : ∃ f', f = f' + 1 ∧ InvA ts E i f' (acc ++ [x]) 0 (j2 + 1) := by
  have hE := isE_E hw
  subst hE
  have hl := isE_lt hw
  obtain ⟨f', rfl⟩ : ∃ f', f = f' + 1 := ⟨f - 1, by omega⟩
  refine ⟨f', rfl, fun y k E' hy => h y k E' ?_⟩
  have e : aggS ts j = .ok x j2 := by rcases ha with ⟨-, h⟩ | ⟨h, -⟩; exact absurd rfl h; exact h
  unfold lf at hy ⊢
  rw [if_pos rfl] at hy ⊢
  rw [e]
  show Cm (moreS ts (aggS ts) (f' + 1) (acc ++ [x]) j2) y k E'
  rw [moreS, if_pos (isE_W hw)]; exact hy
theorem inva_end {f j2 : Nat} {x : Int × List UInt8} {E2 : Int} (h : InvA ts E i f acc 0 j) (ha : Cm (aggS ts j) x j2 E2) (hw : isE E2 ts j2 wComma = false) : Cm (lf E i (listS ts (aggS ts) i)) (acc ++ [x]) j2 E2 := by
  apply h
  unfold lf; rw [if_pos rfl]
  refine ha.and ?_
  by_cases hE : E2 = 0
  · subst hE
    refine .inr ⟨?_, rfl⟩
    unfold lf; rw [if_pos rfl]
    cases f with
    | zero => rfl
    | succ f => rw [moreS, if_neg (by rw [isE_false hw rfl]; decide)]
  · exact lf_bad hE
end
end Go.Proofs.Ytopjpkkidjlbeaa
namespace Go.Proofs.Ytopjpkkidjlbeaa
open Go.RowKit Go.Joins

section
variable {B : Nat} {ts : List Tp} {w w' : World} {rb : Nat} {tv sv : Value} {E : Int} {o i : Nat} {qs : List Nd}
theorem ris_is (h : Ry B ts w rb tv sv E o i qs) {x : List UInt8} {b : Bool} (hx : isE E ts i x = b) : Calls Try.prog 97 #[dp rb, .string (St x)] w fun e w' => e = .returned (.bool b) ∧ Below w.heap.size w w' := by
  rw [← hx]; exact ris_any h x
theorem take_gt {k : Int} {t : Tp} {j2 : Nat} {E2 : Int} {j : Nat} (h : Cm (lf 0 (j + 1) (takeS ts k (j + 1))) t j2 E2) : j < j2 := by have := take_lf h; omega
end
end Go.Proofs.Ytopjpkkidjlbeaa
namespace Go.Proofs.Ytopjpkkidjlbeaa
open Go.RowKit Go.Joins

theorem and_assoc' {α β γ : Type} (r : Rs α) (f : α → Nat → Rs β) (g : β → Nat → Rs γ) : (r.and f).and g = r.and fun x j => (f x j).and g := by cases r <;> rfl
theorem Cm.nm {ts : List Tp} {t : Tp} {i j : Nat} {E E' : Int} (h : Cm (lf E i (takeS ts 1 i)) t j E') : Cm (lf E i (nameS ts i)) t.s j E' := h.map (g := fun t : Tp => t.s)
theorem Cm.nu {ts : List Tp} {t : Tp} {i j : Nat} {E E' : Int} (h : Cm (lf E i (takeS ts 2 i)) t j E') : Cm (lf E i (numS' ts i)) t.n j E' := h.map (g := fun t : Tp => t.n)
/- A step, with the node that it lays. -/
abbrev stepK (r : Np × List Np) (j : Nat) : Rs (Nat × List Np) := .ok (r.2.length, r.2 ++ [r.1]) j
section
variable {ts : List Tp} {i j j1 j2 j3 j4 j5 : Nat} {E E1 E2 E3 E4 E5 : Int} {t2 t3 t5 : Tp}
theorem fetch_cm0 (h1 : Cm (lf E i (wantS ts wFetch i)) () j1 E1) (h2 : Cm (lf E1 j1 (takeS ts 1 j1)) t2 j2 E2) (hf : isE E2 ts j2 wFrom = false) : Cm (lf E i (fetchS ts i)) { n0 with kind := 1, s := t2.s, to_ := 1099511627775 } j2 E2 := by
  refine h1.lfand (h2.nm.lfand ?_)
  by_cases hE : E2 = 0
  · subst hE
    rw [isE_false hf rfl, if_neg (by decide)]; exact ok_lf
  · exact lf_bad hE
theorem fetch_cm1 (h1 : Cm (lf E i (wantS ts wFetch i)) () j1 E1) (h2 : Cm (lf E1 j1 (takeS ts 1 j1)) t2 j2 E2) (hf : isE E2 ts j2 wFrom = true) (h3 : Cm (lf E2 (j2 + 1) (takeS ts 2 (j2 + 1))) t3 j3 E3) (h4 : Cm (lf E3 j3 (wantS ts wTo j3)) () j4 E4) (h5 : Cm (lf E4 j4 (takeS ts 2 j4)) t5 j5 E5) : Cm (lf E i (fetchS ts i)) { n0 with kind := 1, s := t2.s, from_ := t3.n, to_ := t5.n } j5 E5 := by
  refine h1.lfand (h2.nm.lfand ?_)
  have hE := isE_E hf
  subst hE
  rw [isE_W hf, if_pos rfl]
  have h : Cm (lf 0 (j2 + 1) ((numS' ts (j2 + 1)).and fun a j => (wantS ts wTo j).and fun _ j => (numS' ts j).and fun b j => .ok { n0 with kind := 1, s := t2.s, from_ := a, to_ := b } j)) { n0 with kind := 1, s := t2.s, from_ := t3.n, to_ := t5.n } j5 E5 := h3.nu.lfand (h4.lfand (h5.nu.lfand ok_lf))
  exact h
theorem fetch_len {n : Np} (h : Cm (lf E i (fetchS ts i)) n j E1) (hE : E1 = 0) : E = 0 ∧ fetchS ts i = .ok n j ∧ i + 1 ≤ j := by
  rcases h with ⟨-, h⟩ | ⟨h, -⟩
  · exact absurd hE h
  · unfold lf at h
    split at h
    · rename_i hE0
      exact ⟨hE0, h, (fetch_go ts _ _ _ h).1⟩
    · cases h
/- The loop over the steps. -/
def InvQ (ts : List Tp) (st : Nat → Nat → List Np → Rs (Np × List Np)) (T : Rs (Nat × List Np)) (f : Nat) (z : Int) (j : Nat) (ns : List Np) (E : Int) : Prop :=
  (¬ E = 0 ∧ T = .bad j E) ∨ (E = 0 ∧ ∃ a : Nat, z = a ∧ T = stepsL ts st f a j ns ∧ ts.length ≤ f + j)
theorem invq_start {c : PN} {d : Option PN} {ns ns5 : List Np} {n : Np} {z : Int} (hf : Cm (lf E i (fetchS ts i)) n j E1) (h : Cm2 (lf E1 j (.ok (ns.length, ns ++ [n]) j)) z ns5 j5 E5) : InvQ ts (stepB ts c d) (lf E i (queryB ts c d i ns)) ts.length z j5 ns5 E5 := by
  by_cases hE : E1 = 0
  · obtain ⟨rfl, h2, h3⟩ := fetch_len hf hE
    subst hE
    unfold lf at h; rw [if_pos rfl] at h
    rcases h with ⟨h, -⟩ | ⟨a, rfl, h, rfl⟩
    · cases h
    · cases h
      refine .inr ⟨rfl, _, rfl, ?_, by omega⟩
      unfold lf queryB; rw [if_pos rfl, h2]; rfl
  · unfold lf at h; rw [if_neg hE] at h
    rcases h with ⟨h, h5⟩ | ⟨a, -, h, -⟩
    · cases h
      refine .inl ⟨h5, ?_⟩
      rcases hf with ⟨hf, -⟩ | ⟨-, hf⟩
      · unfold queryB; exact lf_bad_and hf
      · exact absurd hf hE
    · cases h
theorem invq_more {st : Nat → Nat → List Np → Rs (Np × List Np)} {T : Rs (Nat × List Np)} {f : Nat} {z : Int} {ns : List Np} (h : InvQ ts st T f z j ns 0) (hw : isW ts j wBar = true) : ∃ f' a : Nat, z = a ∧ ts.length ≤ f' + 1 + j ∧ T = (st a (j + 1) ns).and fun r j => stepsL ts st f' r.2.length j (r.2 ++ [r.1]) := by
  rcases h with ⟨h, -⟩ | ⟨-, a, rfl, h, hf⟩
  · exact absurd rfl h
  · have := isW_lt hw
    obtain ⟨f', rfl⟩ : ∃ f', f = f' + 1 := ⟨f - 1, by omega⟩
    exact ⟨f', a, rfl, hf, by rw [h, stepsL, if_pos hw]⟩
theorem invq_end {st : Nat → Nat → List Np → Rs (Np × List Np)} {T : Rs (Nat × List Np)} {f : Nat} {z : Int} {ns : List Np} (h : InvQ ts st T f z j ns E) (hw : isE E ts j wBar = false) : Cm2 T z ns j E := by
  rcases h with ⟨h, h2⟩ | ⟨rfl, a, rfl, h, hf⟩
  · exact .inl ⟨h2, h⟩
  · refine .inr ⟨a, rfl, ?_, rfl⟩
    rw [h]
    cases f with
    | zero => rfl
    | succ f => rw [stepsL, isE_false hw rfl, if_neg (by decide)]
theorem invq_next {c : PN} {d : Option PN} {T : Rs (Nat × List Np)} {f' a : Nat} {z4 : Int} {ns ns4 : List Np} (hc : GoN ts c) (hd : ∀ p, d = some p → GoN ts p) (hf : ts.length ≤ f' + 1 + j) (hT : T = (stepB ts c d a (j + 1) ns).and fun r j => stepsL ts (stepB ts c d) f' r.2.length j (r.2 ++ [r.1])) (h : Cm2 ((stepB ts c d a (j + 1) ns).and stepK) z4 ns4 j4 E4) : InvQ ts (stepB ts c d) T f' z4 j4 ns4 E4 ∧ (E4 = 0 → j + 1 < j4) := by
  cases hs : stepB ts c d a (j + 1) ns with
  | bad k e =>
    rw [hs] at h hT
    rcases h with ⟨h, h5⟩ | ⟨a, -, h, -⟩
    · cases h
      exact ⟨.inl ⟨h5, hT⟩, fun e => absurd e h5⟩
    · cases h
  | ok r k =>
    rw [hs] at h hT
    have hg := stepB_go hc hd _ _ _ _ _ hs
    rcases h with ⟨h, -⟩ | ⟨b, rfl, h, rfl⟩
    · cases h
    · cases h
      exact ⟨.inr ⟨rfl, _, rfl, hT, by omega⟩, fun _ => by omega⟩
end
end Go.Proofs.Ytopjpkkidjlbeaa
namespace Go.Proofs.Ytopjpkkidjlbeaa
open Go.RowKit Go.Joins

section
variable {B : Nat} {ts : List Tp} {w w' : World} {rb : Nat} {tv sv : Value} {E : Int} {o i : Nat} {qs : List Nd}
end
end Go.Proofs.Ytopjpkkidjlbeaa
namespace Go.Proofs.Ytopjpkkidjlbeaa
open Go.RowKit Go.Joins

/- A call of one argument, in a region that draws. -/
theorem step_call1 {ops : Array Oper} {o : Oper} {a : Act} {w : World} {K : Act → World → Prop} {Q : Exit → Act → World → Prop} {E : Prop} {f : FuncId} {v : Value} (hgd : o.guard = none) (x : Operand) (t : TypeId)
    (ho : o.op = .call { callee := .value (.func f), args := #[x], argTypes := #[t] }) (hx : a.eval x = v) (hen : ∀ args w, (callFunc f args).run Try.prog w = .ok (.enter f args) w)
    (hc : Calls Try.prog f #[v] w fun e w' => ∃ u, e = .returned u ∧ K (a.put o.dst u) w') : if Region.wanted o (yielded ops a.tmps) = true then Oper.wp Try.prog o a w K Q else E := by
  have hw : Region.wanted o (yielded ops a.tmps) = true := by simp [Region.wanted, hgd]
  rw [if_pos hw]
  unfold Oper.wp
  have hr : (execOp a.eval o).run Try.prog w = .ok (.enter f #[v]) w := by
    simp [execOp, ho, resolve, invoke, hen, go_sem]
    rw [← hx]
    cases x <;> simp [Act.eval]
  rw [hr, Oper.upon_enter]
  refine hc.mono ?_
  rintro e w' ⟨u, rfl, hk⟩
  exact hk
theorem enters_rcond : ∀ args w, (callFunc 46 args).run Try.prog w = .ok (.enter 46 args) w := enters_of Try.func46 (by kernel_rfl) rfl
/- A second number behind the first, which has no room. -/
theorem step_app2 {ops : Array Oper} {op : Oper} {a : Act} {w : World} {K : Act → World → Prop} {Q : Exit → Act → World → Prop} {E : Prop} {B lb zb : Nat} {r z : Int} (hgd : op.guard = none) (s x : Operand) (ho : op.op = .call { callee := .builtin .append, args := #[s, x], argTypes := #[47, 47] })
    (hs : a.eval s = .slice (some ⟨lb, 0, none⟩) 1 1) (hx : a.eval x = .slice (some ⟨zb, 0, none⟩) 1 1) (hown : Own int1 1 3 B w (.slice (some ⟨lb, 0, none⟩) 1 1) [r]) (hz : w.cell? ⟨zb, 0, none⟩ = some (.int .i64 z)) (hB : B ≤ w.heap.size)
    (h : ∀ v' w', Own int1 1 3 B w' v' [r, z] → Below w.heap.size w w' → K (a.put op.dst v') w') : if Region.wanted op (yielded ops a.tmps) = true then Oper.wp Try.prog op a w K Q else E := by
  have hw : Region.wanted op (yielded ops a.tmps) = true := by simp [Region.wanted, hgd]
  rw [if_pos hw]
  obtain ⟨ht, hkp, i0, zz, hi, hz0, hz1, hz2, hzs⟩ := elem_int
  have hnews : ∀ (j : Nat) c, [Value.int .i64 z][j]? = some c → w.cell? ((⟨zb, 0, none⟩ : Addr).add j) = some c := by
    intro j c hj
    cases j with
    | zero => cases hj; rw [Addr.add_mid]; exact hz
    | succ j => cases hj
  have h1 : ∀ u ∈ [Value.int .i64 z], u.oneCell' = true := by intro u hu; simp at hu; subst hu; rfl
  have hby : (1 + 1) * i0.bytes ≤ 140737488355328 := Nat.le_trans (Nat.mul_le_mul_left _ hz2) (by decide)
  obtain ⟨v', w', hr, h2, h3, h4⟩ := run_append_own (P := Try.prog) w B 47 op.type 3 i0 zz 1 i0.bytes ht hi hz0 hz1 rfl hzs hkp _ 1 [Value.int .i64 r] hown ⟨zb, 0, none⟩ 1 1 [Value.int .i64 z] rfl hnews h1 (by decide) hby hB
  have holds : ∀ j u, [Value.int .i64 r][j]? = some u → w.cell? ((⟨lb, 0, none⟩ : Addr).add j) = some u := World.ownsRow.cells hown (g := lb) rfl
  have hr2 := run_append_grow (P := Try.prog) w 47 op.type 3 i0 zz ht hi hz0 ⟨lb, 0, none⟩ 1 1 [Value.int .i64 r] (by rw [hz1]; rfl) holds ⟨zb, 0, none⟩ 1 1 [Value.int .i64 z] (by rw [hz1]; rfl) hnews (by decide) (by decide) (growslice_fits (by decide) hby)
  have hb : Below w.heap.size w w' := by
    rw [hr] at hr2
    cases hr2
    exact (Below.refl _ _).drew.alloc (Nat.le_refl _) _
  unfold Oper.wp execOp
  simp only [ho, resolve, invoke, builtin, Sem.run_bind, Sem.run_pure, Result.andThen_ok, List.map_toArray, List.map_cons, List.map_nil, hs, hx, hr]
  exact h v' w' h2 hb
section
variable {B : Nat} {ts : List Tp} {w w' wr : World} {rb : Nat} {tv sv0 sv sv' : Value} {E E' : Int} {o o' i j j' : Nat} {qs qs' : List Nd} {nb : Nat} {q q' : Nd}
structure Bm (B : Nat) (ts : List Tp) (w : World) (rb : Nat) (tv sv0 sv : Value) (E : Int) (o j : Nat) (qs : List Nd) (nb : Nat) (q : Nd) (wr : World) : Prop where
  h : Bn B ts w rb tv sv0 sv E o j qs nb q wr
  d : NdIn B wr q
theorem Bm.y1 (h : Bm B ts w rb tv sv0 sv E o j qs nb q wr) (hk : Kp (fun k => k = rb) wr w') (hr : Ry B ts w' rb tv sv E' o' j' qs) : Bm B ts w rb tv sv0 sv E' o' j' qs nb q w' := ⟨h.h.y1 hk hr, h.d.kp hk h.h.r.tkr⟩
theorem Bm.y2 (h : Bm B ts w rb tv sv0 sv E o j qs nb q wr) (hk : Kp (Tq rb sv) wr w') (ha : At wr sv sv') (hr : Ry B ts w' rb tv sv' E' o' j' qs') : Bm B ts w rb tv sv0 sv' E' o' j' qs' nb q w' := ⟨h.h.y2 hk ha hr, h.d.kp hk h.h.r.tk⟩
theorem Bm.on (h : Bm B ts w rb tv sv0 sv E o j qs nb q wr) (hb : Below wr.heap.size wr w') : Bm B ts w rb tv sv0 sv E o j qs nb q w' := ⟨h.h.on hb, h.d.on hb⟩
theorem Bm.set1 (h : Bm B ts w rb tv sv0 sv E o j qs nb q wr) (c : Nat) (v : Value) (hq : q.cells.toArray.setIfInBounds c v = q'.cells.toArray) (hd : NdIn B wr q → NdIn B wr q') : Bm B ts w rb tv sv0 sv E o j qs nb q' (wr.setCell ⟨nb, c, none⟩ v) :=
  ⟨h.h.set1 c v hq, (hd h.d).kp (Kp.set (T := fun k => k = nb) rfl v) h.h.tk⟩
theorem Bm.start {rows : Int} (h : Ry B ts w rb tv sv E o j qs) (hS : S6 (w.alloc (.cells #[.int .i64 rows] 3)).heap.size (nam1 w { n0 with l := [rows] }).cells.toArray w') (hk' : Kp (fun k => k = (w.alloc (.cells #[.int .i64 rows] 3)).heap.size) ((w.alloc (.cells #[.int .i64 rows] 3)).alloc (.cells zNd 51)) w') :
    Bm B ts w rb tv sv sv E o j qs (w.alloc (.cells #[.int .i64 rows] 3)).heap.size (nam1 w { n0 with l := [rows] }) w' := by
  have hr := h.on ((Below.refl _ _).alloc (Nat.le_refl _) (.cells #[.int .i64 rows] 3))
  refine ⟨Bn.start2 hr (Kp.alloc _ _ _) (At.refl _ _) h.lt hS hk', ?_⟩
  have hd : NdIn B (w.alloc (.cells #[.int .i64 rows] 3)) (nam1 w { n0 with l := [rows] }) := nam1_in (a := rows) h.B_le rfl rfl rfl
  refine (hd.on ((Below.refl _ _).alloc (Nat.le_refl _) (.cells zNd 51))).kp hk' ?_
  rintro k rfl c t fz hc
  rw [alloc_block] at hc; cases hc; decide
theorem zNd_at (w : World) (rows : Int) : ((w.alloc (.cells #[.int .i64 rows] 3)).alloc (.cells zNd 51)).heap[w.heap.size + 1]? = some (.cells zNd 51 (0, 0)) := by
  have h := alloc_block (w.alloc (.cells #[.int .i64 rows] 3)) (.cells zNd 51)
  rw [show (w.alloc (.cells #[.int .i64 rows] 3)).heap.size = w.heap.size + 1 by simp] at h
  exact h
theorem Bm.start1 {rows : Int} (h : Ry B ts w rb tv sv E o j qs) (hS : S6 (w.heap.size + 1) (nam1 w { n0 with l := [rows] }).cells.toArray w') (hk' : Kp (fun k => k = w.heap.size + 1) ((w.alloc (.cells #[.int .i64 rows] 3)).alloc (.cells zNd 51)) w') : Bm B ts w rb tv sv sv E o j qs (w.heap.size + 1) (nam1 w { n0 with l := [rows] }) w' := by
  have e : (w.alloc (.cells #[.int .i64 rows] 3)).heap.size = w.heap.size + 1 := by simp
  have := Bm.start (rows := rows) (w' := w') h (by rw [e]; exact hS) (by rw [e]; exact hk')
  rw [e] at this; exact this
theorem NdIn.same (h : NdIn B w q) (h1 : q'.lv = q.lv) (h2 : q'.nv = q.nv) (h3 : q'.gv = q.gv) (h4 : q'.np.l = q.np.l) (h5 : q'.np.names = q.np.names) (h6 : q'.np.aggs = q.np.aggs) : NdIn B w q' :=
  ⟨by rw [h1, h4]; exact h.l, by rw [h2, h5]; exact h.n, by rw [h3, h6]; exact h.g⟩
/- Mathematics. -/
variable {c : PN} {d : Option PN} {rows : Nat} {ns ns9 : List Np} {z9 E9 : Int} {j9 : Nat}
theorem step_k {k : Nat} (hk : k < 7) (hn : ∀ m, m < k → isW ts i (stepW.getD m []) = false) (hy : isW ts i (stepW.getD k []) = true) : oneOfS ts stepW i = .ok k (i + 1) := by
  unfold oneOfS
  rw [idx_first stepW 0 k hk hn hy, Nat.zero_add]
theorem cm_fin {α : Type} {r : Rs α} {g : α → Np} {x : α} (h : Cm r x j E) (h9 : Cm2 (lf E j (.ok (ns.length, ns ++ [g x]) j)) z9 ns9 j9 E9) : Cm2 (r.and fun x j => .ok (ns.length, ns ++ [g x]) j) z9 ns9 j9 E9 := by
  rcases h with ⟨h, hE⟩ | ⟨h, rfl⟩
  · unfold lf at h9; rw [if_neg hE] at h9
    rw [h]; exact h9
  · unfold lf at h9; rw [if_pos rfl] at h9
    rw [h]; exact h9
theorem cm0 {α : Type} {r : Rs α} {x : α} (h : Cm (lf 0 i r) x j E) : Cm r x j E := by unfold lf at h; rw [if_pos rfl] at h; exact h
theorem step_none (hn : ∀ m, m < 7 → isW ts i (stepW.getD m []) = false) (h9 : Cm2 (lf 120 i (.ok (ns.length, ns ++ [n0]) i)) z9 ns9 j9 E9) : Cm2 ((stepB ts c d rows i ns).and stepK) z9 ns9 j9 E9 := by
  have e : stepB ts c d rows i ns = .bad i 120 := by unfold stepB oneOfS; rw [idx_nil stepW 0 hn]; rfl
  rw [e]
  unfold lf at h9; rw [if_neg (by decide)] at h9; exact h9
end
end Go.Proofs.Ytopjpkkidjlbeaa
namespace Go.Proofs.Ytopjpkkidjlbeaa
open Go.RowKit Go.Joins

section
variable {B : Nat} {ts : List Tp} {w w' : World} {rb : Nat} {tv sv : Value} {E : Int} {o i : Nat} {qs : List Nd}
theorem where_fin {c : PN} {d : Option PN} {rows j3 j9 : Nat} {ns ns9 : List Np} {qs3 : List Nd} {z3 z9 E3 E9 : Int} (hn : ∀ m, m < 0 → isW ts i (stepW.getD m []) = false) (hy : isW ts i (stepW.getD 0 []) = true) (h3 : Cm2 (lf 0 (i + 1) (c (i + 1) ns)) z3 (qs3.map (·.np)) j3 E3) (h9 : Cm2 (lf E3 j3 (.ok (qs3.length, qs3.map (·.np) ++ [{ n0 with kind := 2, l := [(rows : Int), z3] }]) j3)) z9 ns9 j9 E9) : Cm2 ((stepB ts c d rows i ns).and stepK) z9 ns9 j9 E9 := by
  have e : (stepB ts c d rows i ns).and stepK = (c (i + 1) ns).and fun r j => .ok (r.2.length, r.2 ++ [{ n0 with kind := 2, l := [(rows : Int), (r.1 : Int)] }]) j := by
    unfold stepB; rw [step_k (by decide) hn hy]
    show ((c (i + 1) ns).and _).and stepK = _
    rw [and_assoc']; rfl
  rw [e]
  rcases h3 with ⟨h, hn⟩ | ⟨b, rfl, h, rfl⟩
  · unfold lf at h h9; rw [if_pos rfl] at h; rw [if_neg hn] at h9
    rw [h]; exact h9
  · unfold lf at h h9; rw [if_pos rfl] at h h9
    rw [h]; simpa [Rs.and] using h9
end
end Go.Proofs.Ytopjpkkidjlbeaa
namespace Go.Proofs.Ytopjpkkidjlbeaa
open Go.RowKit Go.Joins

theorem list_len {α : Type} {ts : List Tp} {one : Nat → Rs α} {i j : Nat} {E E' : Int} {l : List α} (hg : Go1 ts 1 one) (h : Cm (lf E i (listS ts one i)) l j E') (hE : E' = 0) : i + 1 ≤ j := by
  rcases h with ⟨-, h⟩ | ⟨h, -⟩
  · exact absurd hE h
  · unfold lf at h
    split at h
    · exact (list_go hg _ _ _ h).1
    · cases h
section
variable {B : Nat} {ts : List Tp} {w w' : World} {rb : Nat} {tv sv : Value} {E : Int} {o i : Nat} {qs : List Nd}
theorem keep_fin {c : PN} {d : Option PN} {rows j9 : Nat} {ns ns9 : List Np} {z9 E9 : Int} {j3 : Nat} {E3 : Int} {l : List (List UInt8)} (hn : ∀ m, m < 1 → isW ts i (stepW.getD m []) = false) (hy : isW ts i (stepW.getD 1 []) = true) (h3 : Cm (lf 0 (i + 1) (listS ts (nameS ts) (i + 1))) l j3 E3) (h9 : Cm2 (lf E3 j3 (.ok (ns.length, ns ++ [{ laidN 3 rows with names := l }]) j3)) z9 ns9 j9 E9) : Cm2 ((stepB ts c d rows i ns).and stepK) z9 ns9 j9 E9 := by
  have e : (stepB ts c d rows i ns).and stepK = (listS ts (nameS ts) (i + 1)).and fun x j => .ok (ns.length, ns ++ [(fun l => { laidN 3 rows with names := l }) x]) j := by
    unfold stepB; rw [step_k (by decide) hn hy]
    show ((listS ts (nameS ts) (i + 1)).and _).and stepK = _
    rw [and_assoc']; rfl
  rw [e]
  exact cm_fin (g := (fun l => { laidN 3 rows with names := l })) (cm0 h3) h9
theorem align_fin {c : PN} {d : Option PN} {rows j9 : Nat} {ns ns9 : List Np} {z9 E9 : Int} {j3 : Nat} {E3 : Int} {t3 : Tp} (hn : ∀ m, m < 2 → isW ts i (stepW.getD m []) = false) (hy : isW ts i (stepW.getD 2 []) = true) (h3 : Cm (lf 0 (i + 1) (takeS ts 2 (i + 1))) t3 j3 E3) (h9 : Cm2 (lf E3 j3 (.ok (ns.length, ns ++ [{ laidN 4 rows with n := t3.n }]) j3)) z9 ns9 j9 E9) : Cm2 ((stepB ts c d rows i ns).and stepK) z9 ns9 j9 E9 := by
  have e : (stepB ts c d rows i ns).and stepK = (numS' ts (i + 1)).and fun x j => .ok (ns.length, ns ++ [(fun n => { laidN 4 rows with n := n }) x]) j := by
    unfold stepB; rw [step_k (by decide) hn hy]
    show ((numS' ts (i + 1)).and _).and stepK = _
    rw [and_assoc']; rfl
  rw [e]
  exact cm_fin (g := (fun n => { laidN 4 rows with n := n })) (cm0 h3.nu) h9
end
end Go.Proofs.Ytopjpkkidjlbeaa
namespace Go.Proofs.Ytopjpkkidjlbeaa
open Go.RowKit Go.Joins

section
variable {B : Nat} {ts : List Tp} {w w' : World} {rb : Nat} {tv sv : Value} {E : Int} {o i : Nat} {qs : List Nd}
theorem top_fin {c : PN} {d : Option PN} {rows j3 j4 j5 j9 : Nat} {ns ns9 : List Np} {z9 E3 E4 E5 E9 : Int} {t3 t5 : Tp} (hn : ∀ m, m < 4 → isW ts i (stepW.getD m []) = false) (hy : isW ts i (stepW.getD 4 []) = true) (h3 : Cm (lf 0 (i + 1) (takeS ts 2 (i + 1))) t3 j3 E3) (h4 : Cm (lf E3 j3 (wantS ts wBy j3)) () j4 E4) (h5 : Cm (lf E4 j4 (takeS ts 1 j4)) t5 j5 E5) (h9 : Cm2 (lf E5 j5 (.ok (ns.length, ns ++ [{ laidN 6 rows with n := t3.n, s := t5.s }]) j5)) z9 ns9 j9 E9) : Cm2 ((stepB ts c d rows i ns).and stepK) z9 ns9 j9 E9 := by
  have e : (stepB ts c d rows i ns).and stepK = ((numS' ts (i + 1)).and fun n j => (wantS ts wBy j).and fun _ j => (nameS ts j).and fun x j => .ok ((n, x) : Int × List UInt8) j).and fun p j => .ok (ns.length, ns ++ [{ laidN 6 rows with n := p.1, s := p.2 }]) j := by
    unfold stepB; rw [step_k (by decide) hn hy]
    show ((numS' ts (i + 1)).and _).and stepK = _
    simp only [and_assoc']; rfl
  rw [e]
  exact cm_fin (g := fun p : Int × List UInt8 => { laidN 6 rows with n := p.1, s := p.2 }) ((cm0 h3.nu).and (h4.lfand (h5.nm.lfand ok_lf))) h9
theorem top_len {j3 j4 j5 : Nat} {E3 E4 E5 : Int} {t3 t5 : Tp} (h3 : Cm (lf 0 (i + 1) (takeS ts 2 (i + 1))) t3 j3 E3) (h4 : Cm (lf E3 j3 (wantS ts wBy j3)) () j4 E4) (h5 : Cm (lf E4 j4 (takeS ts 1 j4)) t5 j5 E5) (hE : E5 = 0) : i + 1 ≤ j5 := by
  obtain ⟨e4, e5, -⟩ := take_ok h5 hE
  rcases h4 with ⟨-, h⟩ | ⟨h, -⟩
  · exact absurd e4 h
  · unfold lf at h
    split at h
    · rename_i e3
      have g := want_go ts _ _ _ _ h
      obtain ⟨-, e6, -⟩ := take_ok h3 e3
      omega
    · cases h
end
end Go.Proofs.Ytopjpkkidjlbeaa
namespace Go.Proofs.Ytopjpkkidjlbeaa
open Go.RowKit Go.Joins

section
variable {B : Nat} {ts : List Tp} {w w' : World} {rb : Nat} {tv sv : Value} {E : Int} {o i : Nat} {qs : List Nd}
theorem none_fin {c : PN} {d : Option PN} {rows j9 : Nat} {ns ns9 : List Np} {z9 E9 : Int} {x : Nat × List Np} (hn : ∀ m, m < 7 → isW ts i (stepW.getD m []) = false) (h9 : Cm2 (lf 120 i (.ok x i)) z9 ns9 j9 E9) : Cm2 ((stepB ts c d rows i ns).and stepK) z9 ns9 j9 E9 := by
  have e : stepB ts c d rows i ns = .bad i 120 := by unfold stepB oneOfS; rw [idx_nil stepW 0 hn]; rfl
  rw [e]
  unfold lf at h9; rw [if_neg (by decide)] at h9; exact h9
theorem group0_fin {c : PN} {d : Option PN} {rows j4 j5 j9 : Nat} {ns ns9 : List Np} {z9 E4 E5 E9 : Int} {l : List (Int × List UInt8)} (hn : ∀ m, m < 3 → isW ts i (stepW.getD m []) = false) (hy : isW ts i (stepW.getD 3 []) = true) (hb : isW ts (i + 1) wColon = true) (h4 : Cm (lf 0 (i + 1) (wantS ts wColon (i + 1))) () j4 E4) (h5 : Cm (lf E4 j4 (listS ts (aggS ts) j4)) l j5 E5) (h9 : Cm2 (lf E5 j5 (.ok (ns.length, ns ++ [{ laidN 5 rows with aggs := l }]) j5)) z9 ns9 j9 E9) : Cm2 ((stepB ts c d rows i ns).and stepK) z9 ns9 j9 E9 := by
  have e : (stepB ts c d rows i ns).and stepK = ((wantS ts wColon (i + 1)).and fun _ j => listS ts (aggS ts) j).and fun l j => .ok (ns.length, ns ++ [{ laidN 5 rows with aggs := l }]) j := by
    unfold stepB; rw [step_k (by decide) hn hy]
    show (if isW ts (i + 1) wColon = true then _ else _ : Rs (Np × List Np)).and stepK = _
    rw [if_pos hb]
    unfold wantS; rw [if_pos hb]
    simp only [and_assoc']; rfl
  rw [e]
  exact cm_fin (g := fun l => { laidN 5 rows with aggs := l }) ((cm0 h4).and h5) h9
theorem group1_fin {c : PN} {d : Option PN} {rows j3 j4 j5 j9 : Nat} {ns ns9 : List Np} {z9 E3 E4 E5 E9 : Int} {m : List (List UInt8)} {l : List (Int × List UInt8)} (hn : ∀ m, m < 3 → isW ts i (stepW.getD m []) = false) (hy : isW ts i (stepW.getD 3 []) = true) (hb : isW ts (i + 1) wColon = false) (h3 : Cm (lf 0 (i + 1) (listS ts (nameS ts) (i + 1))) m j3 E3) (h4 : Cm (lf E3 j3 (wantS ts wColon j3)) () j4 E4) (h5 : Cm (lf E4 j4 (listS ts (aggS ts) j4)) l j5 E5) (h9 : Cm2 (lf E5 j5 (.ok (ns.length, ns ++ [{ laidN 5 rows with names := m, aggs := l }]) j5)) z9 ns9 j9 E9) : Cm2 ((stepB ts c d rows i ns).and stepK) z9 ns9 j9 E9 := by
  have e : (stepB ts c d rows i ns).and stepK = ((listS ts (nameS ts) (i + 1)).and fun m j => (wantS ts wColon j).and fun _ j => (listS ts (aggS ts) j).and fun l j => .ok ((m, l) : List (List UInt8) × List (Int × List UInt8)) j).and fun p j => .ok (ns.length, ns ++ [{ laidN 5 rows with names := p.1, aggs := p.2 }]) j := by
    unfold stepB; rw [step_k (by decide) hn hy]
    show (if isW ts (i + 1) wColon = true then _ else _ : Rs (Np × List Np)).and stepK = _
    rw [hb, if_neg (by decide)]
    simp only [and_assoc']; rfl
  rw [e]
  exact cm_fin (g := fun p : List (List UInt8) × List (Int × List UInt8) => { laidN 5 rows with names := p.1, aggs := p.2 }) ((cm0 h3).and (h4.lfand (h5.lfand ok_lf))) h9
end
end Go.Proofs.Ytopjpkkidjlbeaa
namespace Go.Proofs.Ytopjpkkidjlbeaa
open Go.RowKit Go.Joins

section
variable {B : Nat} {ts : List Tp} {w w' : World} {rb : Nat} {tv sv : Value} {E : Int} {o i : Nat} {qs : List Nd}
theorem br_fin {c : PN} {d : Option PN} {p : PN} {k : Nat} {kd : Int} {rows j5 j6 j7 j9 : Nat} {ns ns9 : List Np} {qs6 : List Nd} {z6 z9 E5 E6 E7 E9 : Int} (hk : (k = 5 ∧ kd = 7) ∨ (k = 6 ∧ kd = 8)) (hn : ∀ m, m < k → isW ts i (stepW.getD m []) = false) (hy : isW ts i (stepW.getD k []) = true) (hin : inBr ts d (i + 1) ns = if E5 = 0 then (p j5 ns).and fun r j => (wantS ts wShut j).and fun _ j => .ok r j else .bad j5 E5) (h6 : Cm2 (lf E5 j5 (p j5 ns)) z6 (qs6.map (·.np)) j6 E6) (h7 : Cm (lf E6 j6 (wantS ts wShut j6)) () j7 E7) (h9 : Cm2 (lf E7 j7 (.ok (qs6.length, qs6.map (·.np) ++ [{ n0 with kind := kd, l := [(rows : Int), z6] }]) j7)) z9 ns9 j9 E9) : Cm2 ((stepB ts c d rows i ns).and stepK) z9 ns9 j9 E9 := by
  have e : (stepB ts c d rows i ns).and stepK = (inBr ts d (i + 1) ns).and fun r j => .ok (r.2.length, r.2 ++ [{ n0 with kind := kd, l := [(rows : Int), (r.1 : Int)] }]) j := by
    unfold stepB
    rcases hk with ⟨rfl, rfl⟩ | ⟨rfl, rfl⟩
    · rw [step_k (by decide) hn hy]
      show ((inBr ts d (i + 1) ns).and _).and stepK = _
      rw [and_assoc']; rfl
    · rw [step_k (by decide) hn hy]
      show ((inBr ts d (i + 1) ns).and _).and stepK = _
      rw [and_assoc']; rfl
  rw [e, hin]
  by_cases h5 : E5 = 0
  · subst h5
    rw [if_pos rfl]
    unfold lf at h6; rw [if_pos rfl] at h6
    rcases h6 with ⟨h6, hE⟩ | ⟨b, rfl, h6, rfl⟩
    · rw [h6]
      unfold lf at h7; rw [if_neg hE] at h7
      rcases h7 with ⟨h7, hE7⟩ | ⟨h7, -⟩
      · cases h7
        unfold lf at h9; rw [if_neg hE] at h9
        exact h9
      · cases h7
    · rw [h6]
      unfold lf at h7; rw [if_pos rfl] at h7
      simp only [Rs.and]
      rcases h7 with ⟨h7, hE7⟩ | ⟨h7, rfl⟩
      · rw [h7]
        unfold lf at h9; rw [if_neg hE7] at h9
        exact h9
      · rw [h7]
        unfold lf at h9; rw [if_pos rfl] at h9
        simpa [Rs.and] using h9
  · rw [if_neg h5]
    unfold lf at h6; rw [if_neg h5] at h6
    rcases h6 with ⟨h6, hE⟩ | ⟨b, -, h6, -⟩
    · cases h6
      unfold lf at h7; rw [if_neg h5] at h7
      rcases h7 with ⟨h7, hE7⟩ | ⟨h7, -⟩
      · cases h7
        unfold lf at h9; rw [if_neg h5] at h9
        exact h9
      · cases h7
    · cases h6
theorem want_len {j j' : Nat} {E' : Int} {x : List UInt8} (h : Cm (lf E j (wantS ts x j)) () j' E') (hE : E' = 0) : j + 1 ≤ j' := by
  rcases h with ⟨-, h⟩ | ⟨h, -⟩
  · exact absurd hE h
  · unfold lf at h
    split at h
    · exact (want_go ts _ _ _ _ h).1
    · cases h
end
end Go.Proofs.Ytopjpkkidjlbeaa
