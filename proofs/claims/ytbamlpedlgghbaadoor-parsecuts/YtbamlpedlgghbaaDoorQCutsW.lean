/-
  ParseCuts's walk.
-/
import Derived.Test.YtbamlpedlgghbaaDoorQCutO
import Derived.Test.YtbamlpedlgghbaaDoorQSameQ
import Derived.Test.YtbamlpedlgghbaaDoorQTreeW
import Derived.Deep.RegionHeldLaw
namespace Go.Proofs.YtbamlpedlgghbaaDoor
open Go.RowKit Go.Joins Go.Sort Go.Maps Go.Shelf

abbrev E2 (b1 o1 b2 o2 : Nat) (v1 v2 : Value) (w : World) : Prop := w.cell? ⟨b1, o1, none⟩ = some v1 ∧ w.cell? ⟨b2, o2, none⟩ = some v2
theorem e2D {b1 o1 b2 o2 : Nat} {v1 v2 : Value} {w : World} (h : E2 b1 o1 b2 o2 v1 v2 w) : E2 b1 o1 b2 o2 v1 v2 w.drew := h
theorem e2On {b1 o1 b2 o2 : Nat} {v1 v2 : Value} {w w' : World} (h : E2 b1 o1 b2 o2 v1 v2 w) (hb : Below w.heap.size w w') : E2 b1 o1 b2 o2 v1 v2 w' :=
  ⟨(hb.cell (p := ⟨b1, o1, none⟩) (block_lt_of_cell h.1)).trans h.1, (hb.cell (p := ⟨b2, o2, none⟩) (block_lt_of_cell h.2)).trans h.2⟩
theorem enters_same : ∀ args w, (callFunc 7 args).run Tryd.prog w = .ok (.enter 7 args) w := enters_of Tryd.func7 (by kernel_rfl) rfl
theorem St_cat (x y : List UInt8) : St x ++ St y = St (x ++ y) := by
  unfold St
  apply ByteArray.ext
  simp
/- The first nodes of a row. -/
theorem Nq.take {n : Nat} {w : World} {g c m : Nat} {A tail : List Np} (h : Nq n w (.slice (some ⟨g, 0, none⟩) m c) (A ++ tail)) : Nq n w (.slice (some ⟨g, 0, none⟩) A.length c) A := by
  obtain ⟨qs, h1, h2, h3⟩ := h
  have hl : qs.length = A.length + tail.length := by rw [← List.length_map (f := (·.np)), h3, List.length_append]
  have e : (qs.take A.length).length = A.length := by rw [List.length_take]; omega
  refine ⟨qs.take A.length, ?_, fun q hq => h2 q (List.mem_of_mem_take hq), by rw [List.map_take, h3, List.take_left]⟩
  refine ⟨flat_length nd_len _, ?_⟩
  rcases h1.2 with ⟨hv, h0⟩ | ⟨g', cap, cur, hv, hg, hblk, hc, hm, hcs, ht⟩
  · cases hv
  · cases hv
    refine .inr ⟨g, c, cur, by rw [e], hg, hblk, by rw [e]; omega, hm, hcs, ?_⟩
    have h4 : qs.flatMap Nd.cells = (qs.take A.length).flatMap Nd.cells ++ (qs.drop A.length).flatMap Nd.cells := by rw [← List.flatMap_append, List.take_append_drop]
    rw [e]
    have h5 := congrArg (List.take (A.length * 19)) ht
    rw [List.take_take, h4, List.take_append_of_le_length (by rw [flat_length nd_len, e]; exact Nat.le_refl _), List.take_of_length_le (l := (qs.take A.length).flatMap Nd.cells) (by rw [flat_length nd_len, e]; exact Nat.le_refl _)] at h5
    rw [← h5]
    congr 1
    rw [Nat.min_eq_left]
    exact Nat.mul_le_mul_right _ (by omega)
abbrev sufC : Array Value := #[.string ⟨#[32, 124, 32, 107, 101, 101, 112, 32, 97]⟩, .string ⟨#[32, 124, 32, 97, 108, 105, 103, 110, 32, 53]⟩, .string ⟨#[32, 124, 32, 116, 111, 112, 32, 51, 32, 98, 121, 32, 98]⟩, .string ⟨#[32, 124, 32, 103, 114, 111, 117, 112, 32, 99, 32, 58, 32, 99, 111, 117, 110, 116]⟩, .string ⟨#[32, 124, 32, 119, 104, 101, 114, 101, 32, 100, 32, 61, 32, 49]⟩, .string ⟨#[32, 124, 32, 117, 110, 105, 111, 110, 32, 40, 102, 101, 116, 99, 104, 32, 101, 41]⟩]
theorem sufC_at (k : Nat) (h : k < 6) : sufC[k]? = some (.string (St (sufs.getD k []))) := by
  match k, h with
  | 0, _ => rfl
  | 1, _ => rfl
  | 2, _ => rfl
  | 3, _ => rfl
  | 4, _ => rfl
  | 5, _ => rfl
theorem suf_len (k : Nat) (h : k < 6) : (sufs.getD k []).length ≤ 18 := by
  match k, h with
  | 0, _ => decide
  | 1, _ => decide
  | 2, _ => decide
  | 3, _ => decide
  | 4, _ => decide
  | 5, _ => decide
theorem head_of {l : List Int} {p : Int} (h : l.head? = some p) : ∃ rest, l = p :: rest := by
  cases l with
  | nil => cases h
  | cons a r => simp at h; exact ⟨r, by rw [h]⟩
theorem first_cell {n : Nat} {w : World} {lv : Value} {xs : List Int} {p : Int} {rest : List Int} (h : Own int1 1 3 n w lv xs) (hx : xs = p :: rest) : ∃ (gl ogl cpl ll : Nat), lv = .slice (some ⟨gl, ogl, none⟩) ll cpl ∧ 0 < ll ∧ w.cell? ⟨gl, ogl, none⟩ = some (.int .i64 p) := by
  obtain ⟨q, c, hv, -, hc⟩ := h.sl (fun _ => rfl)
  obtain ⟨b, o, hp, -, hj⟩ := hc (by rw [hx]; simp)
  refine ⟨b, o, c, xs.length, by rw [hv, hp], by rw [hx]; simp, ?_⟩
  have := hj 0 p (by rw [hx]; rfl) 0 _ rfl
  simpa using this
theorem Nq.len' {n : Nat} {w : World} {v : Value} {ns : List Np} {m : Nat} (h : Nq n w v ns) (hm : ns.length = m) : ∃ p c, v = .slice p m c ∧ m ≤ c ∧ c ≤ maxLen := by subst hm; exact h.len
theorem Nq.rows' {n : Nat} {w : World} {v : Value} {ns : List Np} {m : Nat} (h : Nq n w v ns) (hm : ns.length = m) (hne : 0 < m) : ∃ g c, v = .slice (some ⟨g, 0, none⟩) m c ∧ m ≤ c ∧ c ≤ maxLen ∧ Nr n w g ns := by subst hm; exact h.rows hne
set_option maxRecDepth 100000 in
set_option maxHeartbeats 4000000 in
theorem cuts_nat (l : List UInt8) (hl : (l.length : Int) ≤ 140737488351232) (x : Int) (n : Nat) (hx : (x < 0 ∧ -(x + 1) = n) ∨ (¬ x < 0 ∧ x = n)) (hx64 : -9223372036854775808 ≤ x ∧ x ≤ 9223372036854775807) (w : World) (hG : Gd w) : Calls Tryd.prog 4 #[.string (St l), .int .i64 x] w fun e w' => e = .returned (.bool true) ∧ Below w.heap.size w w' := by
  have HG := hid hG
  have HS := hid (shown_any w hG)
  have HQ := hid (fun w hG => Query_any l (by omega) w hG)
  obtain ⟨k, hk⟩ : ∃ k, n % 6 = k := ⟨_, rfl⟩
  have hk6 : k < 6 := by omega
  have hsl := suf_len k hk6
  have HQ2 := hid (fun w hG => Query_any (l ++ sufs.getD k []) (by rw [List.length_append]; omega) w hG)
  have HC := hid (cut_is l k hk6)
  have htm : (n : Int).tmod 6 = (k : Int) := by rw [Int.tmod_eq_emod_of_nonneg (by omega)]; omega
  have hcat := St_cat l (sufs.getD k [])
  have hs1 := St_size l
  have hs2 := St_size (sufs.getD k [])
  have hsz : ¬ 9223372036854775807 < (St l).size + (St (sufs.getD k [])).size := by omega
  have HU := hid (sufC_at k hk6)
  generalize sufs.getD k [] = sx at *
  have kI : (k : Int) < 6 := by omega
  have k0 : (0 : Int) ≤ k := by omega
  generalize queryO l = R at *
  generalize queryO (l ++ sx) = R2 at *
  obtain ⟨A, pa, ea⟩ := R
  obtain ⟨Bn, pb, eb⟩ := R2
  simp only at HC
  have hxl : -9223372036854775808 ≤ x := hx64.1
  have hxr : x ≤ 9223372036854775807 := hx64.2
  clear hG hx64 hsl
  rcases hx with ⟨hx1, hx2⟩ | ⟨hx1, hx2⟩
  · replace hx2 : -(x + 1) = (n : Int) := hx2
    by_cases hea : ea = 0
    · by_cases heb : eb = 0
      · obtain ⟨tail, xn, hBn, htl, hxn, hxl0, hA0⟩ := HC.out hea heb
        subst hea heb
        obtain ⟨la, hla⟩ : ∃ la, A.length = la := ⟨_, rfl⟩
        obtain ⟨lb, hlb⟩ : ∃ lb, Bn.length = lb := ⟨_, rfl⟩
        obtain ⟨p, hp⟩ : ∃ p, la = p + 1 := ⟨la - 1, by omega⟩
        obtain ⟨q, hq⟩ : ∃ q, q + 1 = lb := ⟨lb - 1, by rw [← hlb, hBn, List.length_append]; omega⟩
        obtain ⟨rest, hxr2⟩ : ∃ rest, xn.l = (p : Int) :: rest := head_of (by rw [hxl0, hla, hp]; rfl)
        have HLa := hid hla
        have HLb := hid hlb
        have HXr := hid hxr2
        have hlb0 : 0 < lb := by omega
        have iq : (lb : Int) - 1 = q := by omega
        have ip : (la : Int) - 1 = p := by omega
        have hab : la ≤ lb := by rw [← hlb, hBn, List.length_append, hla]; omega
        have HBn := hid hBn
        have HNT : Hid (∀ {n : Nat} {w : World} {g c m : Nat}, Nq n w (.slice (some ⟨g, 0, none⟩) m c) Bn → Nq n w (.slice (some ⟨g, 0, none⟩) la c) A) := fun h => by rw [hBn] at h; have := h.take; rwa [hla] at this
        clear HC hxl0 hA0 hxr2
        by_cases hk3 : 3 < k
        · rw [if_pos hk3] at htl hxn
          have hd : (lb : Int) - la = 2 := by rw [← hlb, hBn, List.length_append, hla, htl]; omega
          have HXn : Hid ((Bn.map (·.l))[q]? = some xn.l) := by show _ = _; rw [List.getElem?_map, hBn, List.getElem?_append_right (by omega), hla, show q - la = 2 - 1 by omega, hxn]; rfl
          have k3I : 3 < (k : Int) := by omega
          clear htl hxn hBn hp hq hk3 hla hlb
          go_enter Tryd.func4, Tryd.ntmps4
          go_upto_region 5 with (go_at_call 5; refine HS.out.mono ?_; rintro e w1 ⟨rfl, hb⟩; have HB1 := hid (hb.alloc hb.size (.cells sufC 9)); have HSB := hid (alloc_block w1 (.cells sufC 9)); clear hb)
          generalize w1.alloc (.cells sufC 9) = W1 at *
          generalize w1.heap.size = sb at *
          have M1 : Hid True := trivial
          have M2 : Hid True := trivial
          go_upto_region 9 with (first
            | (go_at_call 6; have FIRST := M1; refine (HQ.out _ (HG.out.next HB1.out)).mono ?_; rintro e w2 ⟨va, rfl, hna, hb⟩; obtain ⟨p1, c1, rfl, ca1, ca2⟩ := hna.len' HLa.out; have HB2 := hid ((HB1.out.trans (hb.mono HB1.out.size)).alloc (Nat.le_trans HB1.out.size hb.size) (.cells #[.slice p1 la c1] 25)); have HNA := hid (hna.on ((Below.refl _ _).alloc (Nat.le_refl _) (.cells #[.slice p1 la c1] 25))); have HXA := hid (alloc_block w2 (.cells #[.slice p1 la c1] 25)); have cS := (block_cell (block_on HSB.out (hb.alloc hb.size (.cells #[.slice p1 la c1] 25))) k).trans HU.out; unfold maxLen at ca2; clear hna hb FIRST M1)
            | (go_at_call 6; have FIRST := M2; clear cS; refine (HQ2.out _ (HG.out.next HB2.out)).mono ?_; rintro e w3 ⟨vb, rfl, hnb, hb⟩; obtain ⟨g2, c2, rfl, cb1, cb2, hr2⟩ := hnb.rows' HLb.out hlb0; have HRB := hid (hr2.le.on ((Below.refl _ _).alloc (Nat.le_refl _) (.cells #[.slice (some ⟨g2, 0, none⟩) lb c2] 25))); have HB3 := hid ((HB2.out.trans (hb.mono HB2.out.size)).alloc (Nat.le_trans HB2.out.size hb.size) (.cells #[.slice (some ⟨g2, 0, none⟩) lb c2] 25)); have HNB := hid (hnb.on ((Below.refl _ _).alloc (Nat.le_refl _) (.cells #[.slice (some ⟨g2, 0, none⟩) lb c2] 25))); have HXB := hid (alloc_block w3 (.cells #[.slice (some ⟨g2, 0, none⟩) lb c2] 25)); have HNA3 := hid (HNA.out.on (hb.alloc hb.size (.cells #[.slice (some ⟨g2, 0, none⟩) lb c2] 25))); have HXA3 := hid (block_on HXA.out (hb.alloc hb.size (.cells #[.slice (some ⟨g2, 0, none⟩) lb c2] 25))); unfold maxLen at cb2; clear hnb hb hr2 FIRST M2))
          generalize w3.alloc (.cells #[.slice (some ⟨g2, 0, none⟩) lb c2] 25) = W3 at *
          generalize w2.heap.size = bA at *
          generalize w3.heap.size = bB at *
          have cA := block_cell HXA3.out 0
          have cB := block_cell HXB.out 0
          obtain ⟨lv, cL, oL⟩ := HRB.out.l q (l := xn.l) HXn.out
          have HCL := hid cL
          have HOL := hid oL
          clear cL oL
          have i1 : (la : Int) ≤ c2 := by omega
          have i2 : (0 : Int) ≤ la := by omega
          have i3 : (lb : Int) ≤ 9223372036854775807 := by omega
          go_upto_region 15 with fail
          have hS0 : E2 bA 0 bB 0 (.slice p1 la c1) (.slice (some ⟨g2, 0, none⟩) lb c2) W3 := ⟨cA, cB⟩
          clear cA cB
          go_region_held3 (E2 bA 0 bB 0 (.slice p1 la c1) (.slice (some ⟨g2, 0, none⟩) lb c2)) (((repeat (first | (with_reducible refine e2D ?_))); (with_reducible assumption)))
            (first
            | (refine step_call2 (v := .agg #[.slice (some ⟨g2, 0, none⟩) la c2]) (v2 := .agg #[.slice p1 la c1]) rfl (.tmp 67) (.tmp 68) 25 25 rfl (by simp [Act.eval]) (by simp [Act.eval]) enters_same ?_; refine (same_is (ns := A) ((HNT.out HNB.out).on (Below.refl _ _).drew) (HNA3.out.on (Below.refl _ _).drew)).mono ?_; rintro e w4 ⟨rfl, hb⟩; refine ⟨_, rfl, ?_⟩; have HB4 : Hid (Below W3.heap.size W3 w4) := (Below.refl _ _).drew.trans hb; have hS1 := e2On hS0 HB4.out; clear hb))
          have cA := hS1.1
          have cB := hS1.2
          have cL := (HB4.out.cell (p := ⟨g2, q * 19 + 16, none⟩) (block_lt_of_cell HCL.out)).trans HCL.out
          obtain ⟨gl, ogl, cpl, ll, hlv, hl0, cz⟩ := first_cell (HOL.out.on HB4.out) HXr.out
          subst hlv
          have qI : (q : Int) < lb := by omega
          have q0 : (0 : Int) ≤ q := by omega
          have lI : (0 : Int) < ll := by omega
          have hpp : ((p : Int) == (p : Int)) = true := by simp
          clear hS1 hS0
          go_upto_region 16 with fail
          go_quiet (fail)
          go_wp2_with fail
          go_ret
          exact ⟨rfl, below_drewN (HB3.out.trans (HB4.out.mono HB3.out.size)) _⟩
        · rw [if_neg hk3] at htl hxn
          have hd : (lb : Int) - la = 1 := by rw [← hlb, hBn, List.length_append, hla, htl]; omega
          have HXn : Hid ((Bn.map (·.l))[q]? = some xn.l) := by show _ = _; rw [List.getElem?_map, hBn, List.getElem?_append_right (by omega), hla, show q - la = 1 - 1 by omega, hxn]; rfl
          have k3I : ¬ 3 < (k : Int) := by omega
          clear htl hxn hBn hp hq hk3 hla hlb
          go_enter Tryd.func4, Tryd.ntmps4
          go_upto_region 5 with (go_at_call 5; refine HS.out.mono ?_; rintro e w1 ⟨rfl, hb⟩; have HB1 := hid (hb.alloc hb.size (.cells sufC 9)); have HSB := hid (alloc_block w1 (.cells sufC 9)); clear hb)
          generalize w1.alloc (.cells sufC 9) = W1 at *
          generalize w1.heap.size = sb at *
          have M1 : Hid True := trivial
          have M2 : Hid True := trivial
          go_upto_region 9 with (first
            | (go_at_call 6; have FIRST := M1; refine (HQ.out _ (HG.out.next HB1.out)).mono ?_; rintro e w2 ⟨va, rfl, hna, hb⟩; obtain ⟨p1, c1, rfl, ca1, ca2⟩ := hna.len' HLa.out; have HB2 := hid ((HB1.out.trans (hb.mono HB1.out.size)).alloc (Nat.le_trans HB1.out.size hb.size) (.cells #[.slice p1 la c1] 25)); have HNA := hid (hna.on ((Below.refl _ _).alloc (Nat.le_refl _) (.cells #[.slice p1 la c1] 25))); have HXA := hid (alloc_block w2 (.cells #[.slice p1 la c1] 25)); have cS := (block_cell (block_on HSB.out (hb.alloc hb.size (.cells #[.slice p1 la c1] 25))) k).trans HU.out; unfold maxLen at ca2; clear hna hb FIRST M1)
            | (go_at_call 6; have FIRST := M2; clear cS; refine (HQ2.out _ (HG.out.next HB2.out)).mono ?_; rintro e w3 ⟨vb, rfl, hnb, hb⟩; obtain ⟨g2, c2, rfl, cb1, cb2, hr2⟩ := hnb.rows' HLb.out hlb0; have HRB := hid (hr2.le.on ((Below.refl _ _).alloc (Nat.le_refl _) (.cells #[.slice (some ⟨g2, 0, none⟩) lb c2] 25))); have HB3 := hid ((HB2.out.trans (hb.mono HB2.out.size)).alloc (Nat.le_trans HB2.out.size hb.size) (.cells #[.slice (some ⟨g2, 0, none⟩) lb c2] 25)); have HNB := hid (hnb.on ((Below.refl _ _).alloc (Nat.le_refl _) (.cells #[.slice (some ⟨g2, 0, none⟩) lb c2] 25))); have HXB := hid (alloc_block w3 (.cells #[.slice (some ⟨g2, 0, none⟩) lb c2] 25)); have HNA3 := hid (HNA.out.on (hb.alloc hb.size (.cells #[.slice (some ⟨g2, 0, none⟩) lb c2] 25))); have HXA3 := hid (block_on HXA.out (hb.alloc hb.size (.cells #[.slice (some ⟨g2, 0, none⟩) lb c2] 25))); unfold maxLen at cb2; clear hnb hb hr2 FIRST M2))
          generalize w3.alloc (.cells #[.slice (some ⟨g2, 0, none⟩) lb c2] 25) = W3 at *
          generalize w2.heap.size = bA at *
          generalize w3.heap.size = bB at *
          have cA := block_cell HXA3.out 0
          have cB := block_cell HXB.out 0
          obtain ⟨lv, cL, oL⟩ := HRB.out.l q (l := xn.l) HXn.out
          have HCL := hid cL
          have HOL := hid oL
          clear cL oL
          have i1 : (la : Int) ≤ c2 := by omega
          have i2 : (0 : Int) ≤ la := by omega
          have i3 : (lb : Int) ≤ 9223372036854775807 := by omega
          go_upto_region 15 with fail
          have hS0 : E2 bA 0 bB 0 (.slice p1 la c1) (.slice (some ⟨g2, 0, none⟩) lb c2) W3 := ⟨cA, cB⟩
          clear cA cB
          go_region_held3 (E2 bA 0 bB 0 (.slice p1 la c1) (.slice (some ⟨g2, 0, none⟩) lb c2)) (((repeat (first | (with_reducible refine e2D ?_))); (with_reducible assumption)))
            (first
            | (refine step_call2 (v := .agg #[.slice (some ⟨g2, 0, none⟩) la c2]) (v2 := .agg #[.slice p1 la c1]) rfl (.tmp 67) (.tmp 68) 25 25 rfl (by simp [Act.eval]) (by simp [Act.eval]) enters_same ?_; refine (same_is (ns := A) ((HNT.out HNB.out).on (Below.refl _ _).drew) (HNA3.out.on (Below.refl _ _).drew)).mono ?_; rintro e w4 ⟨rfl, hb⟩; refine ⟨_, rfl, ?_⟩; have HB4 : Hid (Below W3.heap.size W3 w4) := (Below.refl _ _).drew.trans hb; have hS1 := e2On hS0 HB4.out; clear hb))
          have cA := hS1.1
          have cB := hS1.2
          have cL := (HB4.out.cell (p := ⟨g2, q * 19 + 16, none⟩) (block_lt_of_cell HCL.out)).trans HCL.out
          obtain ⟨gl, ogl, cpl, ll, hlv, hl0, cz⟩ := first_cell (HOL.out.on HB4.out) HXr.out
          subst hlv
          have qI : (q : Int) < lb := by omega
          have q0 : (0 : Int) ≤ q := by omega
          have lI : (0 : Int) < ll := by omega
          have hpp : ((p : Int) == (p : Int)) = true := by simp
          clear hS1 hS0
          go_upto_region 16 with fail
          go_quiet (fail)
          go_wp2_with fail
          go_ret
          exact ⟨rfl, below_drewN (HB3.out.trans (HB4.out.mono HB3.out.size)) _⟩
      · have b0 : (eb != 0) = true := by simp [heb]
        subst hea
        clear HC heb
        go_enter Tryd.func4, Tryd.ntmps4
        go_upto_region 5 with (go_at_call 5; refine HS.out.mono ?_; rintro e w1 ⟨rfl, hb⟩; have HB1 := hid (hb.alloc hb.size (.cells sufC 9)); have HSB := hid (alloc_block w1 (.cells sufC 9)); clear hb)
        generalize w1.alloc (.cells sufC 9) = W1 at *
        generalize w1.heap.size = sb at *
        have M1 : Hid True := trivial
        have M2 : Hid True := trivial
        go_wp2_with (first
          | (go_at_call 6; have FIRST := M1; refine (HQ.out _ (HG.out.next HB1.out)).mono ?_; rintro e w2 ⟨va, rfl, hna, hb⟩; obtain ⟨p1, c1, rfl, ca1, ca2⟩ := hna.len' rfl; have HB2 := hid ((HB1.out.trans (hb.mono HB1.out.size)).alloc (Nat.le_trans HB1.out.size hb.size) (.cells #[.slice p1 A.length c1] 25)); have HNA := hid (hna.on ((Below.refl _ _).alloc (Nat.le_refl _) (.cells #[.slice p1 A.length c1] 25))); have HXA := hid (alloc_block w2 (.cells #[.slice p1 A.length c1] 25)); have cS := (block_cell (block_on HSB.out (hb.alloc hb.size (.cells #[.slice p1 A.length c1] 25))) k).trans HU.out; unfold maxLen at ca2; clear hna hb FIRST M1)
          | (go_at_call 6; have FIRST := M2; clear cS; refine (HQ2.out _ (HG.out.next HB2.out)).mono ?_; rintro e w3 ⟨vb, rfl, hnb, hb⟩; obtain ⟨p2, c2, rfl, cb1, cb2⟩ := hnb.len; have HB3 := hid ((HB2.out.trans (hb.mono HB2.out.size)).alloc (Nat.le_trans HB2.out.size hb.size) (.cells #[.slice p2 Bn.length c2] 25)); have HNB := hid (hnb.on ((Below.refl _ _).alloc (Nat.le_refl _) (.cells #[.slice p2 Bn.length c2] 25))); have HXB := hid (alloc_block w3 (.cells #[.slice p2 Bn.length c2] 25)); have HNA3 := hid (HNA.out.on (hb.alloc hb.size (.cells #[.slice p2 Bn.length c2] 25))); have HXA3 := hid (block_on HXA.out (hb.alloc hb.size (.cells #[.slice p2 Bn.length c2] 25))); unfold maxLen at cb2; clear hnb hb FIRST M2))
        go_ret
        exact ⟨rfl, HB3.out⟩
    · have b0 : (ea != 0) = true := by simp [hea]
      clear HC hea
      go_enter Tryd.func4, Tryd.ntmps4
      go_upto_region 5 with (go_at_call 5; refine HS.out.mono ?_; rintro e w1 ⟨rfl, hb⟩; have HB1 := hid (hb.alloc hb.size (.cells sufC 9)); have HSB := hid (alloc_block w1 (.cells sufC 9)); clear hb)
      generalize w1.alloc (.cells sufC 9) = W1 at *
      generalize w1.heap.size = sb at *
      have M1 : Hid True := trivial
      have M2 : Hid True := trivial
      go_wp2_with (first
        | (go_at_call 6; have FIRST := M1; refine (HQ.out _ (HG.out.next HB1.out)).mono ?_; rintro e w2 ⟨va, rfl, hna, hb⟩; obtain ⟨p1, c1, rfl, ca1, ca2⟩ := hna.len' rfl; have HB2 := hid ((HB1.out.trans (hb.mono HB1.out.size)).alloc (Nat.le_trans HB1.out.size hb.size) (.cells #[.slice p1 A.length c1] 25)); have HNA := hid (hna.on ((Below.refl _ _).alloc (Nat.le_refl _) (.cells #[.slice p1 A.length c1] 25))); have HXA := hid (alloc_block w2 (.cells #[.slice p1 A.length c1] 25)); have cS := (block_cell (block_on HSB.out (hb.alloc hb.size (.cells #[.slice p1 A.length c1] 25))) k).trans HU.out; unfold maxLen at ca2; clear hna hb FIRST M1)
        | (go_at_call 6; have FIRST := M2; clear cS; refine (HQ2.out _ (HG.out.next HB2.out)).mono ?_; rintro e w3 ⟨vb, rfl, hnb, hb⟩; obtain ⟨p2, c2, rfl, cb1, cb2⟩ := hnb.len; have HB3 := hid ((HB2.out.trans (hb.mono HB2.out.size)).alloc (Nat.le_trans HB2.out.size hb.size) (.cells #[.slice p2 Bn.length c2] 25)); have HNB := hid (hnb.on ((Below.refl _ _).alloc (Nat.le_refl _) (.cells #[.slice p2 Bn.length c2] 25))); have HXB := hid (alloc_block w3 (.cells #[.slice p2 Bn.length c2] 25)); have HNA3 := hid (HNA.out.on (hb.alloc hb.size (.cells #[.slice p2 Bn.length c2] 25))); have HXA3 := hid (block_on HXA.out (hb.alloc hb.size (.cells #[.slice p2 Bn.length c2] 25))); unfold maxLen at cb2; clear hnb hb FIRST M2))
      go_ret
      exact ⟨rfl, HB3.out⟩
  · subst hx2
    by_cases hea : ea = 0
    · by_cases heb : eb = 0
      · obtain ⟨tail, xn, hBn, htl, hxn, hxl0, hA0⟩ := HC.out hea heb
        subst hea heb
        obtain ⟨la, hla⟩ : ∃ la, A.length = la := ⟨_, rfl⟩
        obtain ⟨lb, hlb⟩ : ∃ lb, Bn.length = lb := ⟨_, rfl⟩
        obtain ⟨p, hp⟩ : ∃ p, la = p + 1 := ⟨la - 1, by omega⟩
        obtain ⟨q, hq⟩ : ∃ q, q + 1 = lb := ⟨lb - 1, by rw [← hlb, hBn, List.length_append]; omega⟩
        obtain ⟨rest, hxr2⟩ : ∃ rest, xn.l = (p : Int) :: rest := head_of (by rw [hxl0, hla, hp]; rfl)
        have HLa := hid hla
        have HLb := hid hlb
        have HXr := hid hxr2
        have hlb0 : 0 < lb := by omega
        have iq : (lb : Int) - 1 = q := by omega
        have ip : (la : Int) - 1 = p := by omega
        have hab : la ≤ lb := by rw [← hlb, hBn, List.length_append, hla]; omega
        have HBn := hid hBn
        have HNT : Hid (∀ {n : Nat} {w : World} {g c m : Nat}, Nq n w (.slice (some ⟨g, 0, none⟩) m c) Bn → Nq n w (.slice (some ⟨g, 0, none⟩) la c) A) := fun h => by rw [hBn] at h; have := h.take; rwa [hla] at this
        clear HC hxl0 hA0 hxr2
        by_cases hk3 : 3 < k
        · rw [if_pos hk3] at htl hxn
          have hd : (lb : Int) - la = 2 := by rw [← hlb, hBn, List.length_append, hla, htl]; omega
          have HXn : Hid ((Bn.map (·.l))[q]? = some xn.l) := by show _ = _; rw [List.getElem?_map, hBn, List.getElem?_append_right (by omega), hla, show q - la = 2 - 1 by omega, hxn]; rfl
          have k3I : 3 < (k : Int) := by omega
          clear htl hxn hBn hp hq hk3 hla hlb
          go_enter Tryd.func4, Tryd.ntmps4
          go_upto_region 5 with (go_at_call 5; refine HS.out.mono ?_; rintro e w1 ⟨rfl, hb⟩; have HB1 := hid (hb.alloc hb.size (.cells sufC 9)); have HSB := hid (alloc_block w1 (.cells sufC 9)); clear hb)
          generalize w1.alloc (.cells sufC 9) = W1 at *
          generalize w1.heap.size = sb at *
          have M1 : Hid True := trivial
          have M2 : Hid True := trivial
          go_upto_region 9 with (first
            | (go_at_call 6; have FIRST := M1; refine (HQ.out _ (HG.out.next HB1.out)).mono ?_; rintro e w2 ⟨va, rfl, hna, hb⟩; obtain ⟨p1, c1, rfl, ca1, ca2⟩ := hna.len' HLa.out; have HB2 := hid ((HB1.out.trans (hb.mono HB1.out.size)).alloc (Nat.le_trans HB1.out.size hb.size) (.cells #[.slice p1 la c1] 25)); have HNA := hid (hna.on ((Below.refl _ _).alloc (Nat.le_refl _) (.cells #[.slice p1 la c1] 25))); have HXA := hid (alloc_block w2 (.cells #[.slice p1 la c1] 25)); have cS := (block_cell (block_on HSB.out (hb.alloc hb.size (.cells #[.slice p1 la c1] 25))) k).trans HU.out; unfold maxLen at ca2; clear hna hb FIRST M1)
            | (go_at_call 6; have FIRST := M2; clear cS; refine (HQ2.out _ (HG.out.next HB2.out)).mono ?_; rintro e w3 ⟨vb, rfl, hnb, hb⟩; obtain ⟨g2, c2, rfl, cb1, cb2, hr2⟩ := hnb.rows' HLb.out hlb0; have HRB := hid (hr2.le.on ((Below.refl _ _).alloc (Nat.le_refl _) (.cells #[.slice (some ⟨g2, 0, none⟩) lb c2] 25))); have HB3 := hid ((HB2.out.trans (hb.mono HB2.out.size)).alloc (Nat.le_trans HB2.out.size hb.size) (.cells #[.slice (some ⟨g2, 0, none⟩) lb c2] 25)); have HNB := hid (hnb.on ((Below.refl _ _).alloc (Nat.le_refl _) (.cells #[.slice (some ⟨g2, 0, none⟩) lb c2] 25))); have HXB := hid (alloc_block w3 (.cells #[.slice (some ⟨g2, 0, none⟩) lb c2] 25)); have HNA3 := hid (HNA.out.on (hb.alloc hb.size (.cells #[.slice (some ⟨g2, 0, none⟩) lb c2] 25))); have HXA3 := hid (block_on HXA.out (hb.alloc hb.size (.cells #[.slice (some ⟨g2, 0, none⟩) lb c2] 25))); unfold maxLen at cb2; clear hnb hb hr2 FIRST M2))
          generalize w3.alloc (.cells #[.slice (some ⟨g2, 0, none⟩) lb c2] 25) = W3 at *
          generalize w2.heap.size = bA at *
          generalize w3.heap.size = bB at *
          have cA := block_cell HXA3.out 0
          have cB := block_cell HXB.out 0
          obtain ⟨lv, cL, oL⟩ := HRB.out.l q (l := xn.l) HXn.out
          have HCL := hid cL
          have HOL := hid oL
          clear cL oL
          have i1 : (la : Int) ≤ c2 := by omega
          have i2 : (0 : Int) ≤ la := by omega
          have i3 : (lb : Int) ≤ 9223372036854775807 := by omega
          go_upto_region 15 with fail
          have hS0 : E2 bA 0 bB 0 (.slice p1 la c1) (.slice (some ⟨g2, 0, none⟩) lb c2) W3 := ⟨cA, cB⟩
          clear cA cB
          go_region_held3 (E2 bA 0 bB 0 (.slice p1 la c1) (.slice (some ⟨g2, 0, none⟩) lb c2)) (((repeat (first | (with_reducible refine e2D ?_))); (with_reducible assumption)))
            (first
            | (refine step_call2 (v := .agg #[.slice (some ⟨g2, 0, none⟩) la c2]) (v2 := .agg #[.slice p1 la c1]) rfl (.tmp 67) (.tmp 68) 25 25 rfl (by simp [Act.eval]) (by simp [Act.eval]) enters_same ?_; refine (same_is (ns := A) ((HNT.out HNB.out).on (Below.refl _ _).drew) (HNA3.out.on (Below.refl _ _).drew)).mono ?_; rintro e w4 ⟨rfl, hb⟩; refine ⟨_, rfl, ?_⟩; have HB4 : Hid (Below W3.heap.size W3 w4) := (Below.refl _ _).drew.trans hb; have hS1 := e2On hS0 HB4.out; clear hb))
          have cA := hS1.1
          have cB := hS1.2
          have cL := (HB4.out.cell (p := ⟨g2, q * 19 + 16, none⟩) (block_lt_of_cell HCL.out)).trans HCL.out
          obtain ⟨gl, ogl, cpl, ll, hlv, hl0, cz⟩ := first_cell (HOL.out.on HB4.out) HXr.out
          subst hlv
          have qI : (q : Int) < lb := by omega
          have q0 : (0 : Int) ≤ q := by omega
          have lI : (0 : Int) < ll := by omega
          have hpp : ((p : Int) == (p : Int)) = true := by simp
          clear hS1 hS0
          go_upto_region 16 with fail
          go_quiet (fail)
          go_wp2_with fail
          go_ret
          exact ⟨rfl, below_drewN (HB3.out.trans (HB4.out.mono HB3.out.size)) _⟩
        · rw [if_neg hk3] at htl hxn
          have hd : (lb : Int) - la = 1 := by rw [← hlb, hBn, List.length_append, hla, htl]; omega
          have HXn : Hid ((Bn.map (·.l))[q]? = some xn.l) := by show _ = _; rw [List.getElem?_map, hBn, List.getElem?_append_right (by omega), hla, show q - la = 1 - 1 by omega, hxn]; rfl
          have k3I : ¬ 3 < (k : Int) := by omega
          clear htl hxn hBn hp hq hk3 hla hlb
          go_enter Tryd.func4, Tryd.ntmps4
          go_upto_region 5 with (go_at_call 5; refine HS.out.mono ?_; rintro e w1 ⟨rfl, hb⟩; have HB1 := hid (hb.alloc hb.size (.cells sufC 9)); have HSB := hid (alloc_block w1 (.cells sufC 9)); clear hb)
          generalize w1.alloc (.cells sufC 9) = W1 at *
          generalize w1.heap.size = sb at *
          have M1 : Hid True := trivial
          have M2 : Hid True := trivial
          go_upto_region 9 with (first
            | (go_at_call 6; have FIRST := M1; refine (HQ.out _ (HG.out.next HB1.out)).mono ?_; rintro e w2 ⟨va, rfl, hna, hb⟩; obtain ⟨p1, c1, rfl, ca1, ca2⟩ := hna.len' HLa.out; have HB2 := hid ((HB1.out.trans (hb.mono HB1.out.size)).alloc (Nat.le_trans HB1.out.size hb.size) (.cells #[.slice p1 la c1] 25)); have HNA := hid (hna.on ((Below.refl _ _).alloc (Nat.le_refl _) (.cells #[.slice p1 la c1] 25))); have HXA := hid (alloc_block w2 (.cells #[.slice p1 la c1] 25)); have cS := (block_cell (block_on HSB.out (hb.alloc hb.size (.cells #[.slice p1 la c1] 25))) k).trans HU.out; unfold maxLen at ca2; clear hna hb FIRST M1)
            | (go_at_call 6; have FIRST := M2; clear cS; refine (HQ2.out _ (HG.out.next HB2.out)).mono ?_; rintro e w3 ⟨vb, rfl, hnb, hb⟩; obtain ⟨g2, c2, rfl, cb1, cb2, hr2⟩ := hnb.rows' HLb.out hlb0; have HRB := hid (hr2.le.on ((Below.refl _ _).alloc (Nat.le_refl _) (.cells #[.slice (some ⟨g2, 0, none⟩) lb c2] 25))); have HB3 := hid ((HB2.out.trans (hb.mono HB2.out.size)).alloc (Nat.le_trans HB2.out.size hb.size) (.cells #[.slice (some ⟨g2, 0, none⟩) lb c2] 25)); have HNB := hid (hnb.on ((Below.refl _ _).alloc (Nat.le_refl _) (.cells #[.slice (some ⟨g2, 0, none⟩) lb c2] 25))); have HXB := hid (alloc_block w3 (.cells #[.slice (some ⟨g2, 0, none⟩) lb c2] 25)); have HNA3 := hid (HNA.out.on (hb.alloc hb.size (.cells #[.slice (some ⟨g2, 0, none⟩) lb c2] 25))); have HXA3 := hid (block_on HXA.out (hb.alloc hb.size (.cells #[.slice (some ⟨g2, 0, none⟩) lb c2] 25))); unfold maxLen at cb2; clear hnb hb hr2 FIRST M2))
          generalize w3.alloc (.cells #[.slice (some ⟨g2, 0, none⟩) lb c2] 25) = W3 at *
          generalize w2.heap.size = bA at *
          generalize w3.heap.size = bB at *
          have cA := block_cell HXA3.out 0
          have cB := block_cell HXB.out 0
          obtain ⟨lv, cL, oL⟩ := HRB.out.l q (l := xn.l) HXn.out
          have HCL := hid cL
          have HOL := hid oL
          clear cL oL
          have i1 : (la : Int) ≤ c2 := by omega
          have i2 : (0 : Int) ≤ la := by omega
          have i3 : (lb : Int) ≤ 9223372036854775807 := by omega
          go_upto_region 15 with fail
          have hS0 : E2 bA 0 bB 0 (.slice p1 la c1) (.slice (some ⟨g2, 0, none⟩) lb c2) W3 := ⟨cA, cB⟩
          clear cA cB
          go_region_held3 (E2 bA 0 bB 0 (.slice p1 la c1) (.slice (some ⟨g2, 0, none⟩) lb c2)) (((repeat (first | (with_reducible refine e2D ?_))); (with_reducible assumption)))
            (first
            | (refine step_call2 (v := .agg #[.slice (some ⟨g2, 0, none⟩) la c2]) (v2 := .agg #[.slice p1 la c1]) rfl (.tmp 67) (.tmp 68) 25 25 rfl (by simp [Act.eval]) (by simp [Act.eval]) enters_same ?_; refine (same_is (ns := A) ((HNT.out HNB.out).on (Below.refl _ _).drew) (HNA3.out.on (Below.refl _ _).drew)).mono ?_; rintro e w4 ⟨rfl, hb⟩; refine ⟨_, rfl, ?_⟩; have HB4 : Hid (Below W3.heap.size W3 w4) := (Below.refl _ _).drew.trans hb; have hS1 := e2On hS0 HB4.out; clear hb))
          have cA := hS1.1
          have cB := hS1.2
          have cL := (HB4.out.cell (p := ⟨g2, q * 19 + 16, none⟩) (block_lt_of_cell HCL.out)).trans HCL.out
          obtain ⟨gl, ogl, cpl, ll, hlv, hl0, cz⟩ := first_cell (HOL.out.on HB4.out) HXr.out
          subst hlv
          have qI : (q : Int) < lb := by omega
          have q0 : (0 : Int) ≤ q := by omega
          have lI : (0 : Int) < ll := by omega
          have hpp : ((p : Int) == (p : Int)) = true := by simp
          clear hS1 hS0
          go_upto_region 16 with fail
          go_quiet (fail)
          go_wp2_with fail
          go_ret
          exact ⟨rfl, below_drewN (HB3.out.trans (HB4.out.mono HB3.out.size)) _⟩
      · have b0 : (eb != 0) = true := by simp [heb]
        subst hea
        clear HC heb
        go_enter Tryd.func4, Tryd.ntmps4
        go_upto_region 5 with (go_at_call 5; refine HS.out.mono ?_; rintro e w1 ⟨rfl, hb⟩; have HB1 := hid (hb.alloc hb.size (.cells sufC 9)); have HSB := hid (alloc_block w1 (.cells sufC 9)); clear hb)
        generalize w1.alloc (.cells sufC 9) = W1 at *
        generalize w1.heap.size = sb at *
        have M1 : Hid True := trivial
        have M2 : Hid True := trivial
        go_wp2_with (first
          | (go_at_call 6; have FIRST := M1; refine (HQ.out _ (HG.out.next HB1.out)).mono ?_; rintro e w2 ⟨va, rfl, hna, hb⟩; obtain ⟨p1, c1, rfl, ca1, ca2⟩ := hna.len' rfl; have HB2 := hid ((HB1.out.trans (hb.mono HB1.out.size)).alloc (Nat.le_trans HB1.out.size hb.size) (.cells #[.slice p1 A.length c1] 25)); have HNA := hid (hna.on ((Below.refl _ _).alloc (Nat.le_refl _) (.cells #[.slice p1 A.length c1] 25))); have HXA := hid (alloc_block w2 (.cells #[.slice p1 A.length c1] 25)); have cS := (block_cell (block_on HSB.out (hb.alloc hb.size (.cells #[.slice p1 A.length c1] 25))) k).trans HU.out; unfold maxLen at ca2; clear hna hb FIRST M1)
          | (go_at_call 6; have FIRST := M2; clear cS; refine (HQ2.out _ (HG.out.next HB2.out)).mono ?_; rintro e w3 ⟨vb, rfl, hnb, hb⟩; obtain ⟨p2, c2, rfl, cb1, cb2⟩ := hnb.len; have HB3 := hid ((HB2.out.trans (hb.mono HB2.out.size)).alloc (Nat.le_trans HB2.out.size hb.size) (.cells #[.slice p2 Bn.length c2] 25)); have HNB := hid (hnb.on ((Below.refl _ _).alloc (Nat.le_refl _) (.cells #[.slice p2 Bn.length c2] 25))); have HXB := hid (alloc_block w3 (.cells #[.slice p2 Bn.length c2] 25)); have HNA3 := hid (HNA.out.on (hb.alloc hb.size (.cells #[.slice p2 Bn.length c2] 25))); have HXA3 := hid (block_on HXA.out (hb.alloc hb.size (.cells #[.slice p2 Bn.length c2] 25))); unfold maxLen at cb2; clear hnb hb FIRST M2))
        go_ret
        exact ⟨rfl, HB3.out⟩
    · have b0 : (ea != 0) = true := by simp [hea]
      clear HC hea
      go_enter Tryd.func4, Tryd.ntmps4
      go_upto_region 5 with (go_at_call 5; refine HS.out.mono ?_; rintro e w1 ⟨rfl, hb⟩; have HB1 := hid (hb.alloc hb.size (.cells sufC 9)); have HSB := hid (alloc_block w1 (.cells sufC 9)); clear hb)
      generalize w1.alloc (.cells sufC 9) = W1 at *
      generalize w1.heap.size = sb at *
      have M1 : Hid True := trivial
      have M2 : Hid True := trivial
      go_wp2_with (first
        | (go_at_call 6; have FIRST := M1; refine (HQ.out _ (HG.out.next HB1.out)).mono ?_; rintro e w2 ⟨va, rfl, hna, hb⟩; obtain ⟨p1, c1, rfl, ca1, ca2⟩ := hna.len' rfl; have HB2 := hid ((HB1.out.trans (hb.mono HB1.out.size)).alloc (Nat.le_trans HB1.out.size hb.size) (.cells #[.slice p1 A.length c1] 25)); have HNA := hid (hna.on ((Below.refl _ _).alloc (Nat.le_refl _) (.cells #[.slice p1 A.length c1] 25))); have HXA := hid (alloc_block w2 (.cells #[.slice p1 A.length c1] 25)); have cS := (block_cell (block_on HSB.out (hb.alloc hb.size (.cells #[.slice p1 A.length c1] 25))) k).trans HU.out; unfold maxLen at ca2; clear hna hb FIRST M1)
        | (go_at_call 6; have FIRST := M2; clear cS; refine (HQ2.out _ (HG.out.next HB2.out)).mono ?_; rintro e w3 ⟨vb, rfl, hnb, hb⟩; obtain ⟨p2, c2, rfl, cb1, cb2⟩ := hnb.len; have HB3 := hid ((HB2.out.trans (hb.mono HB2.out.size)).alloc (Nat.le_trans HB2.out.size hb.size) (.cells #[.slice p2 Bn.length c2] 25)); have HNB := hid (hnb.on ((Below.refl _ _).alloc (Nat.le_refl _) (.cells #[.slice p2 Bn.length c2] 25))); have HXB := hid (alloc_block w3 (.cells #[.slice p2 Bn.length c2] 25)); have HNA3 := hid (HNA.out.on (hb.alloc hb.size (.cells #[.slice p2 Bn.length c2] 25))); have HXA3 := hid (block_on HXA.out (hb.alloc hb.size (.cells #[.slice p2 Bn.length c2] 25))); unfold maxLen at cb2; clear hnb hb FIRST M2))
      go_ret
      exact ⟨rfl, HB3.out⟩
/-- ParseCuts, at any text and any number -/
theorem cuts_any (l : List UInt8) (hl : (l.length : Int) ≤ 140737488351232) (x : Int) (hx64 : -9223372036854775808 ≤ x ∧ x ≤ 9223372036854775807) (w : World) (hG : Gd w) : Calls Tryd.prog 4 #[.string (St l), .int .i64 x] w fun e w' => e = .returned (.bool true) ∧ Below w.heap.size w w' := by
  by_cases h : x < 0
  · exact cuts_nat l hl x (-(x + 1)).toNat (.inl ⟨h, by omega⟩) hx64 w hG
  · exact cuts_nat l hl x x.toNat (.inr ⟨h, by omega⟩) hx64 w hG
end Go.Proofs.YtbamlpedlgghbaaDoor
