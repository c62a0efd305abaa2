/-
  What the reference's Add does.
-/
import Derived.Test.YtmkilckoeaekkaaQRJoinX
import Derived.Deep.DeepCutAuto
namespace Go.Proofs.Ytmkilckoeaekkaa
open Go.RowKit Go.Sort Go.Maps Go.Shelf

/- The first k texts of a point, laid. -/
def layT (nm : ByteArray) (cols : List Cl) (vals : List Vl) (l : List En) : Nat → List En
  | 0 => l
  | k + 1 => match cols[k]?, vals[k]? with
    | some c, some v => if v.k = 2 then layE nm (kf c.nm) (wholeB v.s) (layT nm cols vals l k) else layT nm cols vals l k
    | _, _ => layT nm cols vals l k
theorem layT_yes {nm : ByteArray} {cols : List Cl} {vals : List Vl} {l : List En} {k : Nat} {c : Cl} {v : Vl} (hc : cols[k]? = some c) (hv : vals[k]? = some v) (h : v.k = 2) : layT nm cols vals l (k + 1) = layE nm (kf c.nm) (wholeB v.s) (layT nm cols vals l k) := by
  rw [layT, hc, hv]; simp [h]
theorem layT_no {nm : ByteArray} {cols : List Cl} {vals : List Vl} {l : List En} {k : Nat} {c : Cl} {v : Vl} (hc : cols[k]? = some c) (hv : vals[k]? = some v) (h : ¬ v.k = 2) : layT nm cols vals l (k + 1) = layT nm cols vals l k := by
  rw [layT, hc, hv]; simp [h]
theorem layT_len {nm : ByteArray} {cols : List Cl} {vals : List Vl} {l : List En} : ∀ k, (layT nm cols vals l k).length ≤ l.length + k
  | 0 => Nat.le_refl _
  | k + 1 => by
    have ih := layT_len (nm := nm) (cols := cols) (vals := vals) (l := l) k
    rw [layT]
    split
    · split
      · have := layE_len nm (kf ‹Cl›.nm) (wholeB ‹Vl›.s) (layT nm cols vals l k); omega
      · omega
    · omega
def layG (nm : ByteArray) (cols : List Cl) (vals : List Vl) (l : List En) : List En := layT nm cols vals l (min cols.length vals.length)
theorem layG_len {nm : ByteArray} {cols : List Cl} {vals : List Vl} {l : List En} : (layG nm cols vals l).length ≤ l.length + cols.length := by
  have := layT_len (nm := nm) (cols := cols) (vals := vals) (l := l) (min cols.length vals.length)
  unfold layG; omega
def addE (nm : ByteArray) (kc : List Cl) (kv : List Vl) (vc : List Cl) (vv : List Vl) (l : List En) : List En := layG nm vc vv (layG nm kc kv (layE nm noFd 0 l))
theorem rwhole_b {s : ByteArray} {F : F256} (hs : s.size ≤ 562949953421312) (hF : wholeB s = F) (w : World) : Calls Try.prog 26 #[.string s] w fun e w' => e = .returned (B4 F) ∧ Below w.heap.size w w' := rwhole_is hs hF w
theorem e_on {b o : Nat} {v : Value} {w w' : World} (h : w.cell? ⟨b, o, none⟩ = some v) (hb : Below w.heap.size w w') : w'.cell? ⟨b, o, none⟩ = some v := (hb.cell (p := ⟨b, o, none⟩) (block_lt_of_cell h)).trans h
abbrev S9 (sb pb so po b1 o1 b2 o2 : Nat) (nm : ByteArray) (cv vv : Value) (cn vs : ByteArray) (W : World) : Prop := W.cell? ⟨sb, 0, none⟩ = some (.string nm) ∧ W.cell? ⟨sb, so, none⟩ = some cv ∧ W.cell? ⟨pb, po, none⟩ = some vv ∧ W.cell? ⟨b1, o1, none⟩ = some (.string cn) ∧ W.cell? ⟨b2, o2, none⟩ = some (.string vs)
theorem s9D {sb pb so po b1 o1 b2 o2 : Nat} {nm : ByteArray} {cv vv : Value} {cn vs : ByteArray} {W : World} (h : S9 sb pb so po b1 o1 b2 o2 nm cv vv cn vs W) : S9 sb pb so po b1 o1 b2 o2 nm cv vv cn vs W.drew := h
theorem s9On {sb pb so po b1 o1 b2 o2 : Nat} {nm : ByteArray} {cv vv : Value} {cn vs : ByteArray} {W W' : World} (h : S9 sb pb so po b1 o1 b2 o2 nm cv vv cn vs W) (hb : Below W.heap.size W W') : S9 sb pb so po b1 o1 b2 o2 nm cv vv cn vs W' :=
  ⟨e_on h.1 hb, e_on h.2.1 hb, e_on h.2.2.1 hb, e_on h.2.2.2.1 hb, e_on h.2.2.2.2 hb⟩
/- The boxes of a schema and of a point. -/
structure Pb (w : World) (sb pb : Nat) (nm sc : ByteArray) (ks vs pk pv : Value) (t : Int) : Prop where
  s : w.heap[sb]? = some (.cells #[.string nm, ks, vs] 37)
  p : w.heap[pb]? = some (.cells #[.string sc, pk, .int .i64 t, pv] 40)
theorem Pb.kp {T : Nat → Prop} {w w' : World} {sb pb : Nat} {nm sc : ByteArray} {ks vs pk pv : Value} {t : Int} (h : Pb w sb pb nm sc ks vs pk pv t) (hk : Kp T w w') (h1 : ¬ T sb) (h2 : ¬ T pb) : Pb w' sb pb nm sc ks vs pk pv t := ⟨hk.blk h.s h1, hk.blk h.p h2⟩
theorem pb_lay {B : Nat} {w w' : World} {b : Nat} {sv : Value} {l l' : List En} {sb pb : Nat} {nm sc : ByteArray} {ks vs pk pv : Value} {t : Int} (hr : Rk B w b sv l) (h : Pb w sb pb nm sc ks vs pk pv t) (hp : LayP B w b sv l' w') : Pb w' sb pb nm sc ks vs pk pv t := by
  obtain ⟨sv', -, -, hk⟩ := hp
  refine h.kp hk (fun hT => ?_) (fun hT => ?_)
  · obtain ⟨cs, t', fz, hc, ht⟩ := hr.T_kind sb hT
    rw [h.s] at hc; cases hc
    rcases ht with e | e <;> cases e
  · obtain ⟨cs, t', fz, hc, ht⟩ := hr.T_kind pb hT
    rw [h.p] at hc; cases hc
    rcases ht with e | e <;> cases e
set_option maxRecDepth 100000 in
set_option maxHeartbeats 4000000 in
theorem radd_any {B : Nat} {w : World} {b : Nat} {sv : Value} {l : List En} (h : Rk B w b sv l) (hB : B ≤ w.heap.size) {Q : Nat → Prop} (hQ : ∀ k, Q k → ¬ Tr b sv k ∧ k < w.heap.size) {nm sc : ByteArray} {t : Int} {ks vs pk pv : Value} {kc vc : List Cl} {kv vv : List Vl}
    (h1 : SlAt Q Cl.cells 2 w ks kc) (h2 : SlAt Q Vl.cells 11 w pk kv) (h3 : SlAt Q Cl.cells 2 w vs vc) (h4 : SlAt Q Vl.cells 11 w pv vv)
    (hM : l.length + kc.length + vc.length + 1 ≤ 1000000000000) (c1 : ∀ c ∈ kc, c.nm.size ≤ 562949953421312) (c3 : ∀ c ∈ vc, c.nm.size ≤ 562949953421312) (s2 : ∀ v ∈ kv, v.s.size ≤ 562949953421312) (s4 : ∀ v ∈ vv, v.s.size ≤ 562949953421312) :
    Calls Try.prog 10 #[dp b, Sc nm ks vs, Po sc pk t pv] w fun e w' => e = .returned (.tuple #[]) ∧ LayP B w b sv (addE nm kc kv vc vv l) w' := by
  have HK := hid h
  have HB := hid hB
  have HQ := hid hQ
  have HM := hid hM
  have H1 := hid h1
  have H2 := hid h2
  have H3 := hid h3
  have H4 := hid h4
  have C1 := hid c1
  have C3 := hid c3
  have S2 := hid s2
  have S4 := hid s4
  obtain ⟨p1, q1, rfl, a1, b1⟩ := h1.form
  obtain ⟨p2, q2, rfl, a2, b2⟩ := h2.form
  obtain ⟨p3, q3, rfl, a3, b3⟩ := h3.form
  obtain ⟨p4, q4, rfl, a4, b4⟩ := h4.form
  clear h hB hQ hM h1 h2 h3 h4 c1 c3 s2 s4
  unfold maxLen at b1 b2 b3 b4
  have hb1 : Below w.heap.size w ((w.alloc (.cells #[.string nm, .slice p1 kc.length q1, .slice p3 vc.length q3] 37)).alloc (.cells #[.string sc, .slice p2 kv.length q2, .int .i64 t, .slice p4 vv.length q4] 40)) := (two_al w _ _).2.2
  have hpb : Pb ((w.alloc (.cells #[.string nm, .slice p1 kc.length q1, .slice p3 vc.length q3] 37)).alloc (.cells #[.string sc, .slice p2 kv.length q2, .int .i64 t, .slice p4 vv.length q4] 40)) w.heap.size (w.heap.size + 1) nm sc (.slice p1 kc.length q1) (.slice p3 vc.length q3) (.slice p2 kv.length q2) (.slice p4 vv.length q4) t := ⟨(two_al w _ _).1, (two_al w _ _).2.1⟩
  have HB1 := hid hb1
  have HPb := hid hpb
  clear hb1 hpb
  go_enter Try.func10, Try.ntmps10
  go_upto_region 1 with fail
  generalize (w.alloc (.cells #[.string nm, .slice p1 kc.length q1, .slice p3 vc.length q3] 37)).alloc (.cells #[.string sc, .slice p2 kv.length q2, .int .i64 t, .slice p4 vv.length q4] 40) = w1 at *
  have kS := block_cell HPb.out.s
  have kP := block_cell HPb.out.p
  have lS := lt_of_block HPb.out.s
  have lP := lt_of_block HPb.out.p
  have hz0 : B4 0 = .agg #[.int .u64 0, .int .u64 0, .int .u64 0, .int .u64 0] := rfl
  go_upto_region 2 with (first
    | (go_at_call 25; refine (lay_any (HK.out.on HB1.out) (Nat.le_trans HB.out HB1.out.size) nm noFd 0 (by have := HM.out; omega)).mono ?_; rintro e w2 ⟨rfl, hp2⟩; have HP2 : Hid (LayP B w b sv (layE nm noFd 0 l) w2) := LayP.lay (fun k h => .inl h) (Kp.of HB1.out) hp2; have HPb2 := hid (pb_lay (HK.out.on HB1.out) HPb.out hp2); clear hp2 kS kP lS lP HPb))
  go_wp2_with fail
  go_loopw [6] (fun i wr => ∃ k : Nat, (k ≤ kc.length ∧ k ≤ kv.length) ∧ i = .int .i64 k ∧ Hid (LayP B w b sv (layT nm kc kv (layE nm noFd 0 l) k) wr) ∧ Hid (Pb wr w.heap.size (w.heap.size + 1) nm sc (.slice p1 kc.length q1) (.slice p3 vc.length q3) (.slice p2 kv.length q2) (.slice p4 vv.length q4) t)) (fun i _ => kc.length - (intOf i).toNat)
  case atStart => exact ⟨0, by omega, rfl, HP2, HPb2⟩
  case round =>
    clear HP2 HPb2
    obtain ⟨k, hk, rfl, HP, HPb⟩ := hrel
    obtain ⟨sv1, hr1, ht1, hk1⟩ := HP.out
    have kS := block_cell HPb.out.s
    have kP := block_cell HPb.out.p
    have lS := lt_of_block HPb.out.s
    have lP := lt_of_block HPb.out.p
    by_cases hlt : k < kc.length ∧ k < kv.length
    · obtain ⟨hlt1, hlt2⟩ := hlt
      obtain ⟨cc, hcc⟩ : ∃ c, kc[k]? = some c := ⟨kc[k]'hlt1, List.getElem?_eq_getElem _⟩
      obtain ⟨v, hvv⟩ : ∃ v, kv[k]? = some v := ⟨kv[k]'hlt2, List.getElem?_eq_getElem _⟩
      obtain ⟨g1, o1, rfl, hQ1, cs1⟩ := SlAt.at (H1.out.kp hk1 (fun b hb => (HQ.out b hb).1)) hcc
      obtain ⟨g2, o2, rfl, hQ2, cs2⟩ := SlAt.at (H2.out.kp hk1 (fun b hb => (HQ.out b hb).1)) hvv
      have e1 : wr.cell? ⟨g1, o1 + k * 2, none⟩ = some (.string cc.nm) := cs1 0 _ rfl
      have e2 : wr.cell? ⟨g2, o2 + k * 11, none⟩ = some (.int .i64 v.k) := cs2 0 _ rfl
      have e3 : wr.cell? ⟨g2, o2 + k * 11 + 2, none⟩ = some (.string v.s) := cs2 2 _ rfl
      have HNm := hid (C1.out cc (List.mem_of_getElem? hcc))
      have HVs := hid (S2.out v (List.mem_of_getElem? hvv))
      have hng : ∀ g, Q g → ¬ Tr b sv1 g := fun g hg hT => by
        rcases ht1 g hT with h | h
        · exact (HQ.out g hg).1 h
        · have := (HQ.out g hg).2; omega
      have HN1 := hid (hng _ hQ1)
      have HN2 := hid (hng _ hQ2)
      have HR1 := hid hr1
      have HT1 := hid ht1
      have HK1 := hid hk1
      have HLl : Hid ((layT nm kc kv (layE nm noFd 0 l) k).length ≤ 1000000000000) := by
        have h1 := layT_len (nm := nm) (cols := kc) (vals := kv) (l := (layE nm noFd 0 l)) k
        have h2 := layE_len nm noFd 0 l
        have h3 := HM.out
        show _ ≤ _; omega
      have hnI : (cc.nm.size : Int) ≤ 562949953421312 := by have := HNm.out; omega
      have i1 : (0 : Int) ≤ (k : Int) := by omega
      have i2 : (k : Int) < (kc.length : Int) := by omega
      have i3 : (k : Int) < (kv.length : Int) := by omega
      have hcat : ∀ w : World, (Op.stringOp .add ⟨#[107]⟩ cc.nm).run Try.prog w = .ok (.string (kf cc.nm)) w := fun w => run_string_add_sum w ⟨#[107]⟩ cc.nm (by have := HNm.out; show 1 + cc.nm.size ≤ _; omega)
      have hcb : ∀ (t : TypeId) (w : World), (binOp .add t (.string ⟨#[107]⟩) (.string cc.nm)).run Try.prog w = .ok (.string (kf cc.nm)) w := fun t w => by rw [binOp_string_add]; exact hcat w
      clear hng hQ1 hQ2 cs1 cs2 hr1 ht1 hk1 HP
      by_cases hk2 : v.k = 2
      · have HY := hid (layT_yes (nm := nm) (l := (layE nm noFd 0 l)) hcc hvv hk2)
        rw [hk2] at e2
        clear hcc hvv hk2
        obtain ⟨F, hF⟩ : ∃ F, wholeB v.s = F := ⟨_, rfl⟩
        rw [hF] at HY
        have HW := hid hF
        clear hF
        have hS0 : S9 w.heap.size (w.heap.size + 1) 1 1 g1 (o1 + k * 2) g2 (o2 + k * 11 + 2) nm (.slice (some ⟨g1, o1, none⟩) kc.length q1) (.slice (some ⟨g2, o2, none⟩) kv.length q2) cc.nm v.s wr := ⟨kS 0, kS 1, kP 1, e1, e3⟩
        go_upto_region 6 with fail
        go_region_held3 (S9 w.heap.size (w.heap.size + 1) 1 1 g1 (o1 + k * 2) g2 (o2 + k * 11 + 2) nm (.slice (some ⟨g1, o1, none⟩) kc.length q1) (.slice (some ⟨g2, o2, none⟩) kv.length q2) cc.nm v.s) (((repeat (first | (with_reducible refine s9D ?_))); (with_reducible assumption)))
          (first
          | (go_at_call 26; refine (rwhole_b HVs.out HW.out _).mono ?_; rintro e w3 ⟨rfl, hb⟩; have HB3 : Hid (Below wr.heap.size wr w3) := (Below.refl _ _).drew.trans hb; have hS1 := s9On hS0 HB3.out; clear hb)
          | (go_at_call 25; refine (lay_any (HR1.out.on HB3.out) (by have := HB.out; have := HK1.out.size; have := HB3.out.size; omega) nm (kf cc.nm) F HLl.out).mono ?_; rintro e w4 ⟨rfl, hp4⟩; have HP4 := hid hp4; have HPb4 := hid (pb_lay (HR1.out.on HB3.out) (HPb.out.kp (T := fun _ => False) (Kp.of HB3.out) id id) hp4); have hS4 : S9 w.heap.size (w.heap.size + 1) 1 1 g1 (o1 + k * 2) g2 (o2 + k * 11 + 2) nm (.slice (some ⟨g1, o1, none⟩) kc.length q1) (.slice (some ⟨g2, o2, none⟩) kv.length q2) cc.nm v.s w4 := (by obtain ⟨sv2, -, -, hk4⟩ := hp4; exact ⟨block_cell HPb4.out.s 0, block_cell HPb4.out.s 1, block_cell HPb4.out.p 1, hk4.cell hS1.2.2.2.1 HN1.out, hk4.cell hS1.2.2.2.2 HN2.out⟩); clear hp4))
        clear hS4 hS1 hS0
        go_wp2
        go_roundw
        case rel =>
          refine ⟨k + 1, by omega, by go_num, ?_, HPb4⟩
          show LayP _ _ _ _ _ _
          rw [HY.out]
          exact LayP.lay HT1.out (HK1.out.trans (Kp.of HB3.out)) HP4.out
        case measure => simp [intOf]; omega
      · have HY := hid (layT_no (nm := nm) (l := (layE nm noFd 0 l)) hcc hvv hk2)
        clear hcc hvv
        generalize v.k = vk at *
        go_wp2
        go_roundw
        case rel =>
          refine ⟨k + 1, by omega, by go_num, ?_, HPb⟩
          show LayP _ _ _ _ _ _
          rw [HY.out]
          exact ⟨sv1, HR1.out, HT1.out, HK1.out⟩
        case measure => simp [intOf]; omega
    · have HFe : Hid (LayP B w b sv (layG nm kc kv (layE nm noFd 0 l)) wr) := by
        have e0 : k = min kc.length kv.length := by omega
        have h9 := HP.out
        rw [e0] at h9
        exact h9
      have HPe := HPb
      clear hr1 ht1 hk1 HP HPb
      obtain ⟨Wx, hWx⟩ : ∃ W, W = wr := ⟨wr, rfl⟩
      subst hWx
      go_upto_region 3 with fail
      go_cut [24] from 13 to 51 (fun tv wx => tv = .bool false ∧ wx = Wx)
      case first =>
        rcases (show ¬ k < kc.length ∨ (k < kc.length ∧ ¬ k < kv.length) by omega) with h1 | ⟨h1, h2⟩
        · go_wp2
          go_meet
          exact ⟨rfl, rfl⟩
        · go_wp2
          go_meet
          exact ⟨by simp, rfl⟩
      case rest =>
        obtain ⟨hut, hwc⟩ := hcut
        subst hut
        replace hwc := hwc.symm
        subst hwc
        clear kS kP lS lP
        go_wp2_with fail
        go_loopw [7] (fun i wr => ∃ k : Nat, (k ≤ vc.length ∧ k ≤ vv.length) ∧ i = .int .i64 k ∧ Hid (LayP B w b sv (layT nm vc vv (layG nm kc kv (layE nm noFd 0 l)) k) wr) ∧ Hid (Pb wr w.heap.size (w.heap.size + 1) nm sc (.slice p1 kc.length q1) (.slice p3 vc.length q3) (.slice p2 kv.length q2) (.slice p4 vv.length q4) t)) (fun i _ => vc.length - (intOf i).toNat)
        case atStart => exact ⟨0, by omega, rfl, HFe, HPe⟩
        case round =>
          clear HFe HPe
          obtain ⟨k, hk, rfl, HP, HPb⟩ := hrel
          obtain ⟨sv1, hr1, ht1, hk1⟩ := HP.out
          have kS := block_cell HPb.out.s
          have kP := block_cell HPb.out.p
          have lS := lt_of_block HPb.out.s
          have lP := lt_of_block HPb.out.p
          by_cases hlt : k < vc.length ∧ k < vv.length
          · obtain ⟨hlt1, hlt2⟩ := hlt
            obtain ⟨cc, hcc⟩ : ∃ c, vc[k]? = some c := ⟨vc[k]'hlt1, List.getElem?_eq_getElem _⟩
            obtain ⟨v, hvv⟩ : ∃ v, vv[k]? = some v := ⟨vv[k]'hlt2, List.getElem?_eq_getElem _⟩
            obtain ⟨g1, o1, rfl, hQ1, cs1⟩ := SlAt.at (H3.out.kp hk1 (fun b hb => (HQ.out b hb).1)) hcc
            obtain ⟨g2, o2, rfl, hQ2, cs2⟩ := SlAt.at (H4.out.kp hk1 (fun b hb => (HQ.out b hb).1)) hvv
            have e1 : wr.cell? ⟨g1, o1 + k * 2, none⟩ = some (.string cc.nm) := cs1 0 _ rfl
            have e2 : wr.cell? ⟨g2, o2 + k * 11, none⟩ = some (.int .i64 v.k) := cs2 0 _ rfl
            have e3 : wr.cell? ⟨g2, o2 + k * 11 + 2, none⟩ = some (.string v.s) := cs2 2 _ rfl
            have HNm := hid (C3.out cc (List.mem_of_getElem? hcc))
            have HVs := hid (S4.out v (List.mem_of_getElem? hvv))
            have hng : ∀ g, Q g → ¬ Tr b sv1 g := fun g hg hT => by
              rcases ht1 g hT with h | h
              · exact (HQ.out g hg).1 h
              · have := (HQ.out g hg).2; omega
            have HN1 := hid (hng _ hQ1)
            have HN2 := hid (hng _ hQ2)
            have HR1 := hid hr1
            have HT1 := hid ht1
            have HK1 := hid hk1
            have HLl : Hid ((layT nm vc vv (layG nm kc kv (layE nm noFd 0 l)) k).length ≤ 1000000000000) := by
              have h1 := layT_len (nm := nm) (cols := vc) (vals := vv) (l := (layG nm kc kv (layE nm noFd 0 l))) k
              have h2 := (show (layG nm kc kv (layE nm noFd 0 l)).length ≤ l.length + 1 + kc.length from Nat.le_trans layG_len (Nat.add_le_add_right (layE_len nm noFd 0 l) _))
              have h3 := HM.out
              show _ ≤ _; omega
            have hnI : (cc.nm.size : Int) ≤ 562949953421312 := by have := HNm.out; omega
            have i1 : (0 : Int) ≤ (k : Int) := by omega
            have i2 : (k : Int) < (vc.length : Int) := by omega
            have i3 : (k : Int) < (vv.length : Int) := by omega
            have hcat : ∀ w : World, (Op.stringOp .add ⟨#[107]⟩ cc.nm).run Try.prog w = .ok (.string (kf cc.nm)) w := fun w => run_string_add_sum w ⟨#[107]⟩ cc.nm (by have := HNm.out; show 1 + cc.nm.size ≤ _; omega)
            have hcb : ∀ (t : TypeId) (w : World), (binOp .add t (.string ⟨#[107]⟩) (.string cc.nm)).run Try.prog w = .ok (.string (kf cc.nm)) w := fun t w => by rw [binOp_string_add]; exact hcat w
            clear hng hQ1 hQ2 cs1 cs2 hr1 ht1 hk1 HP
            by_cases hk2 : v.k = 2
            · have HY := hid (layT_yes (nm := nm) (l := (layG nm kc kv (layE nm noFd 0 l))) hcc hvv hk2)
              rw [hk2] at e2
              clear hcc hvv hk2
              obtain ⟨F, hF⟩ : ∃ F, wholeB v.s = F := ⟨_, rfl⟩
              rw [hF] at HY
              have HW := hid hF
              clear hF
              have hS0 : S9 w.heap.size (w.heap.size + 1) 2 3 g1 (o1 + k * 2) g2 (o2 + k * 11 + 2) nm (.slice (some ⟨g1, o1, none⟩) vc.length q3) (.slice (some ⟨g2, o2, none⟩) vv.length q4) cc.nm v.s wr := ⟨kS 0, kS 2, kP 3, e1, e3⟩
              go_upto_region 11 with fail
              go_region_held3 (S9 w.heap.size (w.heap.size + 1) 2 3 g1 (o1 + k * 2) g2 (o2 + k * 11 + 2) nm (.slice (some ⟨g1, o1, none⟩) vc.length q3) (.slice (some ⟨g2, o2, none⟩) vv.length q4) cc.nm v.s) (((repeat (first | (with_reducible refine s9D ?_))); (with_reducible assumption)))
                (first
                | (go_at_call 26; refine (rwhole_b HVs.out HW.out _).mono ?_; rintro e w3 ⟨rfl, hb⟩; have HB3 : Hid (Below wr.heap.size wr w3) := (Below.refl _ _).drew.trans hb; have hS1 := s9On hS0 HB3.out; clear hb)
                | (go_at_call 25; refine (lay_any (HR1.out.on HB3.out) (by have := HB.out; have := HK1.out.size; have := HB3.out.size; omega) nm (kf cc.nm) F HLl.out).mono ?_; rintro e w4 ⟨rfl, hp4⟩; have HP4 := hid hp4; have HPb4 := hid (pb_lay (HR1.out.on HB3.out) (HPb.out.kp (T := fun _ => False) (Kp.of HB3.out) id id) hp4); have hS4 : S9 w.heap.size (w.heap.size + 1) 2 3 g1 (o1 + k * 2) g2 (o2 + k * 11 + 2) nm (.slice (some ⟨g1, o1, none⟩) vc.length q3) (.slice (some ⟨g2, o2, none⟩) vv.length q4) cc.nm v.s w4 := (by obtain ⟨sv2, -, -, hk4⟩ := hp4; exact ⟨block_cell HPb4.out.s 0, block_cell HPb4.out.s 2, block_cell HPb4.out.p 3, hk4.cell hS1.2.2.2.1 HN1.out, hk4.cell hS1.2.2.2.2 HN2.out⟩); clear hp4))
              clear hS4 hS1 hS0
              go_wp2
              go_roundw
              case rel =>
                refine ⟨k + 1, by omega, by go_num, ?_, HPb4⟩
                show LayP _ _ _ _ _ _
                rw [HY.out]
                exact LayP.lay HT1.out (HK1.out.trans (Kp.of HB3.out)) HP4.out
              case measure => simp [intOf]; omega
            · have HY := hid (layT_no (nm := nm) (l := (layG nm kc kv (layE nm noFd 0 l))) hcc hvv hk2)
              clear hcc hvv
              generalize v.k = vk at *
              go_wp2
              go_roundw
              case rel =>
                refine ⟨k + 1, by omega, by go_num, ?_, HPb⟩
                show LayP _ _ _ _ _ _
                rw [HY.out]
                exact ⟨sv1, HR1.out, HT1.out, HK1.out⟩
              case measure => simp [intOf]; omega
          · have HFe : Hid (LayP B w b sv (layG nm vc vv (layG nm kc kv (layE nm noFd 0 l))) wr) := by
              have e0 : k = min vc.length vv.length := by omega
              have h9 := HP.out
              rw [e0] at h9
              exact h9
            have HPe := HPb
            clear hr1 ht1 hk1 HP HPb
            obtain ⟨Wx, hWx⟩ : ∃ W, W = wr := ⟨wr, rfl⟩
            subst hWx
            go_upto_region 8 with fail
            go_cut [63] from 52 to 90 (fun tv wx => tv = .bool false ∧ wx = Wx)
            case first =>
              rcases (show ¬ k < vc.length ∨ (k < vc.length ∧ ¬ k < vv.length) by omega) with h1 | ⟨h1, h2⟩
              · go_wp2
                go_meet
                exact ⟨rfl, rfl⟩
              · go_wp2
                go_meet
                exact ⟨by simp, rfl⟩
            case rest =>
              obtain ⟨hut, hwc⟩ := hcut
              subst hut
              replace hwc := hwc.symm
              subst hwc
              clear kS kP lS lP
              go_wp2
              go_end0
              exact ⟨rfl, HFe.out⟩
end Go.Proofs.Ytmkilckoeaekkaa
