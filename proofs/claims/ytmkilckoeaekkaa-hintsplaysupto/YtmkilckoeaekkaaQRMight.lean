/-
  The reference's Might.
-/
import Derived.Test.YtmkilckoeaekkaaQRMay
import Derived.Deep.DeepCutAuto
namespace Go.Proofs.Ytmkilckoeaekkaa
open Go.RowKit Go.Sort Go.Maps Go.Shelf

theorem pbl_set2 {hs : List Bool} {n k : Nat} (hk : hs.length = k) (h : k < n) (t r : Bool) : (pbl (hs ++ [t]) n).setIfInBounds k (.bool r) = pbl (hs ++ [r]) n := by
  subst hk
  have e : n - (hs ++ [t]).length = n - (hs ++ [r]).length := by simp
  unfold pbl
  rw [e]
  apply Array.ext'
  simp
theorem mq_set {w : World} {g n k : Nat} {hs : List Bool} {W : World} {t : Bool} (h : Mq w g n (hs ++ [t]) W) (hg : w.heap.size ≤ g) (hk : hs.length = k) (hn : k < n) (r : Bool) : Mq w g n (hs ++ [r]) (W.setCell ⟨g, k, none⟩ (.bool r)) := by
  refine ⟨?_, h.bel.setCell (by exact hg) _⟩
  have := block_set h.blk k (.bool r)
  rw [pbl_set2 hk hn] at this
  exact this
theorem bl_init {w : World} {g : Nat} {hs : List Bool} {t : Bool} (h : Bl w g (hs ++ [t])) : Bl w g hs := fun j u hj => h j u (by rw [List.getElem?_append_left (List.getElem?_eq_some_iff.1 hj).1]; exact hj)
theorem bl_last {w : World} {g k : Nat} {hs : List Bool} {t : Bool} (h : Bl w g (hs ++ [t])) (hk : hs.length = k) : w.cell? ⟨g, k, none⟩ = some (.bool t) := h k t (by subst hk; simp)
abbrev Sn (nb : Nat) (s vs : ByteArray) (how vk : Int) (W : World) : Prop := W.cell? ⟨nb, 1, none⟩ = some (.string s) ∧ W.cell? ⟨nb, 7, none⟩ = some (.string vs) ∧ W.cell? ⟨nb, 2, none⟩ = some (.int .i64 how) ∧ W.cell? ⟨nb, 5, none⟩ = some (.int .i64 vk)
theorem snD {nb : Nat} {s vs : ByteArray} {how vk : Int} {W : World} (h : Sn nb s vs how vk W) : Sn nb s vs how vk W.drew := h
theorem snOn {nb : Nat} {s vs : ByteArray} {how vk : Int} {W W' : World} (h : Sn nb s vs how vk W) (hb : Below W.heap.size W W') : Sn nb s vs how vk W' := by
  obtain ⟨h1, h2, h3, h4⟩ := h
  have hl := block_lt_of_cell h1
  exact ⟨(hb.cell (p := ⟨nb, 1, none⟩) hl).trans h1, (hb.cell (p := ⟨nb, 7, none⟩) hl).trans h2, (hb.cell (p := ⟨nb, 2, none⟩) hl).trans h3, (hb.cell (p := ⟨nb, 5, none⟩) hl).trans h4⟩
theorem snS {nb g k : Nat} {s vs : ByteArray} {how vk : Int} {v : Value} {W : World} (hn : nb ≠ g) (h : Sn nb s vs how vk W) : Sn nb s vs how vk (W.setCell ⟨g, k, none⟩ v) := by
  obtain ⟨h1, h2, h3, h4⟩ := h
  have e : ∀ o, (W.setCell ⟨g, k, none⟩ v).cell? ⟨nb, o, none⟩ = W.cell? ⟨nb, o, none⟩ := fun o => World.cell?_of_block (a := ⟨nb, o, none⟩) (Below.heap_setCell _ _ _ _ hn)
  exact ⟨(e 1).trans h1, (e 7).trans h2, (e 2).trans h3, (e 5).trans h4⟩
theorem rbits_is {B : Nat} {w : World} {b : Nat} {sv : Value} {l : List En} (h : Rk B w b sv l) (n f : ByteArray) (hf : f.size ≤ 562949953421312) (hl : l.length ≤ 1000000000000) {J : F256} (hJ : getE l n (kf f) = J) : Calls Try.prog 17 #[dp b, .string n, .string f] w fun e w' => e = .returned (B4 J) ∧ Below w.heap.size w w' := by
  rw [← hJ]; exact rbits_any h n f hf hl
theorem mq_on {w : World} {g n : Nat} {hs : List Bool} {W W' : World} (h : Mq w g n hs W) (hb : Below W.heap.size W W') : Mq w g n hs W' := ⟨block_on h.blk hb, below_on h.bel hb⟩
theorem mq_end {w : World} {g n k : Nat} {hs : List Bool} {W : World} {r : Bool} {x : Ix} {nm : ByteArray} {L : List Nq} (HT : mights KK x nm (L.take (k + 1)) = hs ++ [r]) (h : Mq w g n (hs ++ [r]) W) : Mq w g n (mights KK x nm (L.take (k + 1))) W := by rw [HT]; exact h
set_option maxRecDepth 100000 in
set_option maxHeartbeats 4000000 in
theorem rmight_in {B : Nat} {w : World} {b : Nat} {sv : Value} {ls : List En} (h : Rk B w b sv ls) (hl : ls.length ≤ 1000000000000) {Q : Nat → Prop} {v : Value} {ns : List (Nd × List Int)} (hq : Qn Q w v ns) {nm : ByteArray} (hs : seenE ls nm = true) (hsz : ∀ y ∈ ns, y.1.s.size ≤ 562949953421312) {n : Nat} (hnl : n < ns.length) :
    Calls Try.prog 19 #[dp b, .string nm, .agg #[v], .int .i64 (n : Int)] w fun e w' => e = .returned (.bool (might KK (absE ls) nm (qs ns) (n : Int))) ∧ Below w.heap.size w w' := by
  have HB : Hid (Below w.heap.size w (w.alloc (.cells #[v] 26))) := (Below.refl _ _).alloc (Nat.le_refl _) _
  have HK := hid (h.on HB.out)
  have k1 : ∀ o, (w.alloc (.cells #[v] 26)).cell? ⟨w.heap.size, o, none⟩ = #[v][o]? := block_cell (alloc_block _ _)
  have HQ := hid (hq.on HB.out)
  have hz : w.heap.size < (w.alloc (.cells #[v] 26)).heap.size := by simp
  generalize hW : w.alloc (.cells #[v] 26) = w1 at *
  have HW := hid hW
  obtain ⟨p, cp, rfl, hc1, hc2⟩ := hq.sl.form
  have hlen := hq.len
  have HL := hid hl
  have HS := hid hs
  have HX : Hid ((absE ls).seen nm = true) := hs
  have HSZs := hid hsz
  clear hsz
  have hql : (qs ns).length = ns.length := by simp [qs]
  clear hW h hl hs hq
  obtain ⟨x, hx⟩ : ∃ x, absE ls = x := ⟨_, rfl⟩
  rw [hx] at HX
  have HAx := hid hx
  rw [hx]
  clear hx
  obtain ⟨r, hr⟩ : ∃ r, might KK x nm (qs ns) (n : Int) = r := ⟨_, rfl⟩
  rw [hr]
  have HR := hid hr
  clear hr
  have hmk : ∀ W : World, (Instr.makeSlice 81 (.int .i64 ((n : Int) + 1)) (.int .i64 ((n : Int) + 1))).run Try.prog W = .ok (.slice (some ⟨W.heap.size, 0, none⟩) (n + 1) (n + 1)) (W.alloc (.cells (pbl [] (n + 1)) 4)) := fun W => by
    have := make_bools (n + 1) (by omega) W
    rwa [show (((n + 1 : Nat) : Nat) : Int) = (n : Int) + 1 by omega] at this
  have HH := hid (alloc_block w1 (.cells (pbl [] (n + 1)) 4))
  unfold maxLen at hc2
  have HNl := hid hnl
  have HQl := hid hql
  clear hql hnl
  generalize hln : ns.length = ln at *
  have HLn := hid hln
  clear hln
  have hd1 : decide ((n : Int) < 0) = false := decide_eq_false (by omega)
  have hd2 : decide (ln ≤ n) = false := decide_eq_false (by have := HNl.out; omega)
  have hn9 : (n : Int) + 1 ≤ 9223372036854775807 := by have := HNl.out; omega
  go_enter Try.func19, Try.ntmps19
  go_upto_region 1 with fail
  rw [HW.out]
  go_wp2_with (go_at_call 15; refine (rseen_is HK.out _ HL.out HS.out).mono ?_; rintro e w2 ⟨rfl, hw2⟩; replace hw2 := hw2.symm; subst hw2)
  go_loopw [10] (fun i wr => ∃ k : Nat, k ≤ n + 1 ∧ i = .int .i64 k ∧ Hid (Mq w1 w1.heap.size (n + 1) (mights KK x nm ((qs ns).take k)) wr)) (fun i _ => n + 1 - (intOf i).toNat)
  case atStart => exact ⟨0, by omega, rfl, ⟨HH.out, (Below.refl _ _).alloc (Nat.le_refl _) _⟩⟩
  case round =>
    clear HH
    obtain ⟨k, hk, rfl, HMq⟩ := hrel
    by_cases hlt : k < n + 1
    · obtain ⟨y, hy⟩ : ∃ y, ns[k]? = some y := ⟨ns[k]'(by rw [HLn.out]; have := HNl.out; omega), List.getElem?_eq_getElem _⟩
      obtain ⟨bn, on, rfl, hcn⟩ := node_load (HQ.out.sl.on HMq.out.bel) hy
      have HSZ0 := hid (HSZs.out _ (List.mem_of_getElem? hy))
      obtain ⟨q, l⟩ := y
      have HSZ : Hid (q.s.size ≤ 562949953421312) := HSZ0.out
      clear HSZ0
      obtain ⟨hs1, hs2, hl1, ⟨p2, n2, c2, e2⟩, p3, n3, c3, e3⟩ := HQ.out.each _ (List.mem_of_getElem? hy)
      obtain ⟨p1, c1, e1, -, -⟩ := hl1.form
      simp only at e1 e2 e3 hl1 hs1 hs2 hcn
      have H1 := hid (one_node (q := q) (by rw [e1]; rfl) (by rw [e2]; rfl) (by rw [e3]; rfl))
      clear e2 e3
      have HE1 := hid e1
      clear e1
      have HLl := hid hl1
      have HS1 := hid hs1
      have HS2 := hid hs2
      have hql : (qs ns)[k]? = some (q.q l) := by unfold qs; rw [List.getElem?_map, hy]; rfl
      have HT := hid (mights_take KK x nm (qs ns) hql)
      have HLm : Hid ((mights KK x nm ((qs ns).take k)).length = k) := by show _ = _; rw [mights_len, List.length_take, HQl.out]; have := HNl.out; omega
      obtain ⟨hs, hhs⟩ : ∃ hs, mights KK x nm ((qs ns).take k) = hs := ⟨_, rfl⟩
      rw [hhs] at HT HLm HMq
      have HHs := hid hhs
      have HCn := hid hcn
      clear hhs hql hl1 hs1 hs2 hy hcn
      have hle : (k : Int) ≤ (n : Int) := by omega
      have i1 : (0 : Int) ≤ (k : Int) := by omega
      have i5 : (k : Int) < (ln : Int) := by have := HNl.out; omega
      have kw : ∀ o, wr.cell? ⟨w.heap.size, o, none⟩ = #[Value.slice (some ⟨bn, on, none⟩) ln cp][o]? := fun o => (HMq.out.bel.cell (p := ⟨w.heap.size, o, none⟩) hz).trans (k1 o)
      clear hn9 hd1 hd2 hmk k1
      go_upto_region 10 with (first
        | (refine load_node (q := q) rfl _ rfl rfl HCn.out ?_)
        | (refine store_node (q := q) rfl _ _ rfl rfl rfl rfl H1.out ?_))
      have k2 : NdAt wr.heap.size q (wr.alloc (.cells q.cells.toArray 63)) := node_box wr q
      have HMa : Hid (Mq w1 w1.heap.size (n + 1) hs (wr.alloc (.cells q.cells.toArray 63))) := ⟨block_on HMq.out.blk ((Below.refl _ _).alloc (Nat.le_refl _) _), below_on HMq.out.bel ((Below.refl _ _).alloc (Nat.le_refl _) _)⟩
      have hgn : wr.heap.size ≠ w1.heap.size := by have := lt_of_block HMq.out.blk; omega
      clear HMq HCn kw
      generalize wr.alloc (.cells q.cells.toArray 63) = W2 at *
      generalize wr.heap.size = nb at *
      have i2 : (k : Int) < (n : Int) + 1 := by omega
      have f3 := block_frozen HMa.out.blk k
      have c3 := (block_cell HMa.out.blk k).trans (pbl_at HLm.out hlt)
      go_upto_region 11 with fail
      have k3 := ndS (g := w1.heap.size) (k := k) (v := .bool true) hgn k2
      have HM3 : Hid (Mq w1 w1.heap.size (n + 1) (hs ++ [true]) (W2.setCell ⟨w1.heap.size, k, none⟩ (.bool true))) := by
        refine ⟨?_, HMa.out.bel.setCell (Nat.le_refl _) _⟩
        have := block_set HMa.out.blk k (.bool true)
        rw [← HLm.out, pbl_set (by rw [HLm.out]; exact hlt)] at this
        rw [← HLm.out]
        exact this
      clear k2 HMa f3 c3
      generalize W2.setCell ⟨w1.heap.size, k, none⟩ (.bool true) = W3 at *
      have HL3 := hid (HLl.out.on HM3.out.bel)
      go_cut [12] from 29 to 168 (fun tv wx => tv = .bool (twoB l k) ∧ wx = W3)
      case first =>
        obtain ⟨kind, s, how, a, b, v, lv, nv, gv⟩ := q
        have e1 := HE1.out
        simp only at e1
        subst e1
        simp only [NdAt, NdC] at k3
        simp only at HL3
        by_cases h2 : l.length = 2
        · obtain ⟨a', b', rfl⟩ : ∃ a' b', l = [a', b'] := by
            match l, h2 with
            | [a', b'], _ => exact ⟨a', b', rfl⟩
          obtain ⟨gl, ol, rfl, d3, d4, hln, hc2'⟩ := two_at HL3.out
          simp only [List.length_cons, List.length_nil, Nat.zero_add, Nat.reduceAdd] at k3
          clear HL3 HLl HE1 H1 HT HM3 HQ HS1 HS2
          by_cases a1 : 0 ≤ a'
          · by_cases a2 : a' < (k : Int)
            · by_cases a3 : 0 ≤ b'
              · by_cases a4 : b' < (k : Int)
                · go_wp2
                  go_meet
                  exact ⟨by simp [twoB, a1, a2, a3, a4], rfl⟩
                · go_wp2
                  go_meet
                  exact ⟨by simp [twoB, a1, a2, a3, a4], rfl⟩
              · go_wp2
                go_meet
                exact ⟨by simp [twoB, a1, a2]; try omega, rfl⟩
            · go_wp2
              go_meet
              exact ⟨by simp [twoB, a1]; try omega, rfl⟩
          · go_wp2
            go_meet
            exact ⟨by simp [twoB]; try omega, rfl⟩
        · have h3 := twoB_len (k := k) h2
          obtain ⟨t, ht⟩ : ∃ t, twoB l k = t := ⟨_, rfl⟩
          have HT2 := hid (ht.symm.trans h3)
          have HT3 := hid ht
          clear h3 ht
          clear HL3 HLl HE1 H1 HT HM3 HQ HS1 HS2
          generalize hll : l.length = ll at *
          clear hll
          go_wp2
          go_meet
          exact ⟨by rw [HT3.out, HT2.out], rfl⟩
      case rest =>
        obtain ⟨hut, hwc⟩ := hcut
        subst hut
        replace hwc := hwc.symm
        subst hwc
        obtain ⟨r, hr⟩ : ∃ r, mayOne KK x nm hs (q.q l) = r := ⟨_, rfl⟩
        rw [hr] at HT
        obtain ⟨kind, s, how, a, b, v, lv, nv, gv⟩ := q
        have e1 := HE1.out
        simp only at e1
        subst e1
        simp only [NdAt, NdC] at k3
        simp only at HL3 HSZ
        clear HE1 H1 HLl
        have f3 := block_frozen HM3.out.blk k
        have c3 := bl_last (pbl_bl HM3.out.blk) HLm.out
        by_cases g11 : kind = 11
        · subst g11
          unfold mayOne at hr
          rw [if_pos (show (Nd.q ⟨11, s, how, a, b, v, .slice p1 l.length c1, nv, gv⟩ l).kind = KK.and_ from rfl), HLm.out] at hr
          cases ht : twoB l k with
          | false =>
            have hn : two (Nd.q ⟨11, s, how, a, b, v, .slice p1 l.length c1, nv, gv⟩ l) k = none := two_none ht
            rw [hn] at hr
            simp only at hr
            subst hr
            clear ht hn HL3
            generalize hll : l.length = ll at *
            clear hll
            go_wp2
            go_roundw
            case rel => exact ⟨k + 1, by omega, by go_num, mq_end HT.out (mq_set HM3.out (Nat.le_refl _) HLm.out hlt _)⟩
            case measure => simp [intOf]; omega
          | true =>
            obtain ⟨a', b', rfl, ha, hb'⟩ := twoB_true ht
            have hn : two (Nd.q ⟨11, s, how, a, b, v, .slice p1 [(a' : Int), (b' : Int)].length c1, nv, gv⟩ [(a' : Int), (b' : Int)]) k = some (a', b') := two_of rfl ha hb'
            rw [hn] at hr
            simp only at hr
            obtain ⟨t1, d1, e1⟩ := ahead_at (bl_init (pbl_bl HM3.out.blk)) (show a' < hs.length by rw [HLm.out]; exact ha)
            obtain ⟨t2, d2, e2⟩ := ahead_at (bl_init (pbl_bl HM3.out.blk)) (show b' < hs.length by rw [HLm.out]; exact hb')
            rw [e1, e2] at hr
            obtain ⟨gl, ol, rfl, d3, d4, hln2, hc2'⟩ := two_at HL3.out
            clear ht hn e1 e2 HL3
            have iA : (a' : Int) < (n : Int) + 1 := by omega
            have iB : (b' : Int) < (n : Int) + 1 := by omega
            simp only [List.length_cons, List.length_nil, Nat.zero_add, Nat.reduceAdd] at k3
            cases t1 <;> cases t2
            all_goals
              subst hr
              go_wp2
              go_roundw
              case rel => exact ⟨k + 1, by omega, by go_num, mq_end HT.out (mq_set HM3.out (Nat.le_refl _) HLm.out hlt _)⟩
              case measure => simp [intOf]; omega
        · by_cases g12 : kind = 12
          · subst g12
            unfold mayOne at hr
            rw [if_neg (show ¬ (Nd.q ⟨12, s, how, a, b, v, .slice p1 l.length c1, nv, gv⟩ l).kind = KK.and_ from fun h => absurd h (by decide : ¬ (12 : Int) = 11))] at hr
            rw [if_pos (show (Nd.q ⟨12, s, how, a, b, v, .slice p1 l.length c1, nv, gv⟩ l).kind = KK.or_ from rfl), HLm.out] at hr
            cases ht : twoB l k with
            | false =>
              have hn : two (Nd.q ⟨12, s, how, a, b, v, .slice p1 l.length c1, nv, gv⟩ l) k = none := two_none ht
              rw [hn] at hr
              simp only at hr
              subst hr
              clear ht hn HL3
              generalize hll : l.length = ll at *
              clear hll
              go_wp2
              go_roundw
              case rel => exact ⟨k + 1, by omega, by go_num, mq_end HT.out (mq_set HM3.out (Nat.le_refl _) HLm.out hlt _)⟩
              case measure => simp [intOf]; omega
            | true =>
              obtain ⟨a', b', rfl, ha, hb'⟩ := twoB_true ht
              have hn : two (Nd.q ⟨12, s, how, a, b, v, .slice p1 [(a' : Int), (b' : Int)].length c1, nv, gv⟩ [(a' : Int), (b' : Int)]) k = some (a', b') := two_of rfl ha hb'
              rw [hn] at hr
              simp only at hr
              obtain ⟨t1, d1, e1⟩ := ahead_at (bl_init (pbl_bl HM3.out.blk)) (show a' < hs.length by rw [HLm.out]; exact ha)
              obtain ⟨t2, d2, e2⟩ := ahead_at (bl_init (pbl_bl HM3.out.blk)) (show b' < hs.length by rw [HLm.out]; exact hb')
              rw [e1, e2] at hr
              obtain ⟨gl, ol, rfl, d3, d4, hln2, hc2'⟩ := two_at HL3.out
              clear ht hn e1 e2 HL3
              have iA : (a' : Int) < (n : Int) + 1 := by omega
              have iB : (b' : Int) < (n : Int) + 1 := by omega
              simp only [List.length_cons, List.length_nil, Nat.zero_add, Nat.reduceAdd] at k3
              cases t1 <;> cases t2
              all_goals
                subst hr
                go_wp2
                go_roundw
                case rel => exact ⟨k + 1, by omega, by go_num, mq_end HT.out (mq_set HM3.out (Nat.le_refl _) HLm.out hlt _)⟩
                case measure => simp [intOf]; omega
          · by_cases g14 : kind = 14
            · subst g14
              unfold mayOne at hr
              rw [if_neg (show ¬ (Nd.q ⟨14, s, how, a, b, v, .slice p1 l.length c1, nv, gv⟩ l).kind = KK.and_ from fun h => absurd h (by decide : ¬ (14 : Int) = 11)), if_neg (show ¬ (Nd.q ⟨14, s, how, a, b, v, .slice p1 l.length c1, nv, gv⟩ l).kind = KK.or_ from fun h => absurd h (by decide : ¬ (14 : Int) = 12)), if_pos (show (Nd.q ⟨14, s, how, a, b, v, .slice p1 l.length c1, nv, gv⟩ l).kind = KK.cmp from rfl)] at hr
              have hS0 : Sn nb s v.s how v.k W3 := ⟨k3 1, k3 7, k3 2, k3 5⟩
              clear HL3
              by_cases e1 : how = 1
              · by_cases e2 : v.k = 2
                · rw [if_pos (show (Nd.q ⟨14, s, how, a, b, v, .slice p1 l.length c1, nv, gv⟩ l).how = KK.eq ∧ (Nd.q ⟨14, s, how, a, b, v, .slice p1 l.length c1, nv, gv⟩ l).vk = KK.str from ⟨e1, e2⟩)] at hr
                  obtain ⟨G, hG⟩ : ∃ G, wholeB v.s = G := ⟨_, rfl⟩
                  obtain ⟨J, hJ⟩ : ∃ J, getE ls nm (kf s) = J := ⟨_, rfl⟩
                  have hw : wit G J = r := by rw [← hG, ← hJ, ← hr, ← HAx.out]; rfl
                  have HWi := hid hw
                  have HG := hid hG
                  have HJ := hid hJ
                  have HV1 := hid (show v.s.size ≤ 562949953421312 by have := HS2.out; simp only at this; omega)
                  have HSz := hid HSZ.out
                  have N0 : Hid True := hid trivial
                  have HK3 := hid (HK.out.on HM3.out.bel)
                  clear hr hG hJ hw HS1 HS2
                  rw [e1, e2] at hS0
                  go_upto_region 18 with fail
                  clear f3 c3 k3
                  go_region_held3 (Sn nb s v.s 1 2) (((repeat (first | (with_reducible refine snD ?_) | (with_reducible refine snS hgn ?_))); (with_reducible assumption)))
                    (first
                    | (go_at_call 26; have X := N0; refine (rwhole_b HV1.out HG.out _).mono ?_; rintro e w4 ⟨rfl, hb⟩; have HBa : Hid (Below W3.heap.size W3 w4) := (Below.refl _ _).drew.trans hb; have hS1 := snOn hS0 HBa.out; clear hb X N0)
                    | (go_at_call 17; have X := N0; refine (rbits_is (HK3.out.on ((Below.refl _ _).drew)) _ _ HSz.out HL.out HJ.out).mono ?_; rintro e w4 ⟨rfl, hb⟩; have HBa : Hid (Below W3.heap.size W3 w4) := (Below.refl _ _).drew.trans hb; have hS1 := snOn hS0 HBa.out; clear hb X N0)
                    | (go_at_call 26; refine (rwhole_b HV1.out HG.out _).mono ?_; rintro e w5 ⟨rfl, hb⟩; have HBb := hid (below_on HBa.out hb); have hS2 := snOn hS1 hb; clear hb)
                    | (go_at_call 17; refine (rbits_is (HK3.out.on HBa.out) _ _ HSz.out HL.out HJ.out).mono ?_; rintro e w5 ⟨rfl, hb⟩; have HBb := hid (below_on HBa.out hb); have hS2 := snOn hS1 hb; clear hb)
                    | (go_at_call 29; refine (rwithin_is HWi.out _).mono ?_; rintro e w6 ⟨rfl, hb⟩; have HBc := hid (below_on HBb.out hb); have hS3 := snOn hS2 hb; have HM6 := hid (mq_on HM3.out HBc.out); have f6 := block_frozen HM6.out.blk k; have c6 := bl_last (pbl_bl HM6.out.blk) HLm.out; clear hb))
                  all_goals
                    go_wp2
                    go_roundw
                    case rel => exact ⟨k + 1, by omega, by go_num, mq_end HT.out (mq_set HM6.out (Nat.le_refl _) HLm.out hlt _)⟩
                    case measure => simp [intOf]; omega
                · rw [if_neg (fun h => e2 h.2)] at hr
                  subst hr
                  have e2a : (v.k == 2) = false := by simp [e2]
                  have e2b : (v.k != 2) = true := by simp [e2]
                  clear HS1 HS2
                  rw [e1] at hS0
                  generalize v.k = vk at *
                  go_upto_region 18 with fail
                  clear k3
                  obtain ⟨q1, q7, q2, q5⟩ := hS0
                  go_region
            
                  all_goals
                    go_wp2
                    go_roundw
                    case rel => exact ⟨k + 1, by omega, by go_num, mq_end HT.out (mq_set (mq_on HM3.out (Below.refl _ _).drew) (Nat.le_refl _) HLm.out hlt _)⟩
                    case measure => simp [intOf]; omega
              · rw [if_neg (fun h => e1 h.1)] at hr
                subst hr
                have e2a : (how == 1) = false := by simp [e1]
                have e2b : (how != 1) = true := by simp [e1]
                clear HS1 HS2
                go_upto_region 18 with fail
                clear k3
                obtain ⟨q1, q7, q2, q5⟩ := hS0
                go_region
            
                all_goals
                  go_wp2
                  go_roundw
                  case rel => exact ⟨k + 1, by omega, by go_num, mq_end HT.out (mq_set (mq_on HM3.out (Below.refl _ _).drew) (Nat.le_refl _) HLm.out hlt _)⟩
                  case measure => simp [intOf]; omega
            · by_cases g15 : kind = 15
              · subst g15
                unfold mayOne at hr
                rw [if_neg (show ¬ (Nd.q ⟨15, s, how, a, b, v, .slice p1 l.length c1, nv, gv⟩ l).kind = KK.and_ from fun h => absurd h (by decide : ¬ (15 : Int) = 11)), if_neg (show ¬ (Nd.q ⟨15, s, how, a, b, v, .slice p1 l.length c1, nv, gv⟩ l).kind = KK.or_ from fun h => absurd h (by decide : ¬ (15 : Int) = 12)), if_neg (show ¬ (Nd.q ⟨15, s, how, a, b, v, .slice p1 l.length c1, nv, gv⟩ l).kind = KK.cmp from fun h => absurd h (by decide : ¬ (15 : Int) = 14)), if_pos (show (Nd.q ⟨15, s, how, a, b, v, .slice p1 l.length c1, nv, gv⟩ l).kind = KK.has from rfl)] at hr
                obtain ⟨G, hG⟩ : ∃ G, ofS (xsOf v.s) = G := ⟨_, rfl⟩
                obtain ⟨J, hJ⟩ : ∃ J, getE ls nm (kf s) = J := ⟨_, rfl⟩
                have hw : wit G J = r := by rw [← hG, ← hJ, ← hr, ← HAx.out]; rfl
                have HWi := hid hw
                have HG := hid hG
                have HJ := hid hJ
                have HV1 := hid (show v.s.size ≤ 1125899906842624 by have := HS2.out; simp only at this; omega)
                have HSz := hid HSZ.out
                have hS0 : Sn nb s v.s how v.k W3 := ⟨k3 1, k3 7, k3 2, k3 5⟩
                have N0 : Hid True := hid trivial
                have HK3 := hid (HK.out.on HM3.out.bel)
                clear hr hG hJ hw HL3 HS1 HS2
                go_upto_region 20 with fail
                clear f3 c3 k3
                go_region_held3 (Sn nb s v.s how v.k) (((repeat (first | (with_reducible refine snD ?_) | (with_reducible refine snS hgn ?_))); (with_reducible assumption)))
                  (first
                  | (go_at_call 30; have X := N0; refine (rof_is HV1.out HG.out _).mono ?_; rintro e w4 ⟨rfl, hb⟩; have HBa : Hid (Below W3.heap.size W3 w4) := (Below.refl _ _).drew.trans hb; have hS1 := snOn hS0 HBa.out; clear hb X N0)
                  | (go_at_call 17; have X := N0; refine (rbits_is (HK3.out.on ((Below.refl _ _).drew)) _ _ HSz.out HL.out HJ.out).mono ?_; rintro e w4 ⟨rfl, hb⟩; have HBa : Hid (Below W3.heap.size W3 w4) := (Below.refl _ _).drew.trans hb; have hS1 := snOn hS0 HBa.out; clear hb X N0)
                  | (go_at_call 30; refine (rof_is HV1.out HG.out _).mono ?_; rintro e w5 ⟨rfl, hb⟩; have HBb := hid (below_on HBa.out hb); have hS2 := snOn hS1 hb; clear hb)
                  | (go_at_call 17; refine (rbits_is (HK3.out.on HBa.out) _ _ HSz.out HL.out HJ.out).mono ?_; rintro e w5 ⟨rfl, hb⟩; have HBb := hid (below_on HBa.out hb); have hS2 := snOn hS1 hb; clear hb)
                  | (go_at_call 29; refine (rwithin_is HWi.out _).mono ?_; rintro e w6 ⟨rfl, hb⟩; have HBc := hid (below_on HBb.out hb); have hS3 := snOn hS2 hb; have HM6 := hid (mq_on HM3.out HBc.out); have f6 := block_frozen HM6.out.blk k; have c6 := bl_last (pbl_bl HM6.out.blk) HLm.out; clear hb))
                all_goals
                  go_wp2
                  go_roundw
                  case rel => exact ⟨k + 1, by omega, by go_num, mq_end HT.out (mq_set HM6.out (Nat.le_refl _) HLm.out hlt _)⟩
                  case measure => simp [intOf]; omega
              · unfold mayOne at hr
                rw [if_neg (show ¬ (Nd.q ⟨kind, s, how, a, b, v, .slice p1 l.length c1, nv, gv⟩ l).kind = KK.and_ from g11), if_neg (show ¬ (Nd.q ⟨kind, s, how, a, b, v, .slice p1 l.length c1, nv, gv⟩ l).kind = KK.or_ from g12), if_neg (show ¬ (Nd.q ⟨kind, s, how, a, b, v, .slice p1 l.length c1, nv, gv⟩ l).kind = KK.cmp from g14), if_neg (show ¬ (Nd.q ⟨kind, s, how, a, b, v, .slice p1 l.length c1, nv, gv⟩ l).kind = KK.has from g15)] at hr
                subst hr
                go_wp2
                go_roundw
                case rel => exact ⟨k + 1, by omega, by go_num, mq_end HT.out (HM3.out)⟩
                case measure => simp [intOf]; omega
    · obtain rfl : k = n + 1 := by omega
      have HTk : Hid ((mights KK x nm ((qs ns).take (n + 1))).length = n + 1) := by show _ = _; rw [mights_len, List.length_take, HQl.out]; have := HNl.out; omega
      have hr1 : (mights KK x nm ((qs ns).take (n + 1)))[n]? = some r := by
        have h1 := HR.out
        unfold might at h1
        rw [HX.out, if_pos ⟨by omega, by rw [HQl.out]; have := HNl.out; omega⟩, Int.toNat_natCast, mights_get KK x nm (qs ns) (show n < n + 1 by omega) (by rw [HQl.out]; have := HNl.out; omega)] at h1
        have h2 := HTk.out
        rw [List.getElem?_eq_getElem (by omega)]
        rw [List.getD_eq_getElem?_getD, List.getElem?_eq_getElem (by omega)] at h1
        simpa using h1
      have c3 := pbl_bl HMq.out.blk n r hr1
      clear hr1
      have hle : decide (((n + 1 : Nat) : Int) ≤ (n : Int)) = false := decide_eq_false (by omega)
      have hlf : decide ((n : Int) + 1 ≤ (n : Int)) = false := decide_eq_false (by omega)
      clear hn9 hd1 hd2 hmk hlt hk
      go_wp2
      go_ret
      exact ⟨rfl, below_on HB.out HMq.out.bel⟩

end Go.Proofs.Ytmkilckoeaekkaa
