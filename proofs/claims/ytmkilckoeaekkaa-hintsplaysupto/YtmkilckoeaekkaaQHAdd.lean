/-
  What Add of package hints does.
-/
import Derived.Test.YtmkilckoeaekkaaQHSl
namespace Go.Proofs.Ytmkilckoeaekkaa
open Go.RowKit Go.Sort Go.Maps Go.Shelf

/- An index that tells x: T are its blocks, none of its maps has more than M entries. -/
def Hx (B M : Nat) (w : World) (b : Nat) (x : Ix) (T : Nat → Prop) : Prop := ∃ mo f c N, Hk B w b mo f c N x ∧ N ≤ M ∧ (∀ n, x.seen n = true → c n ≤ M) ∧ T = Th b mo f x
theorem Hx.kp {B M : Nat} {w w' : World} {b : Nat} {x : Ix} {T T' : Nat → Prop} (h : Hx B M w b x T) (hk : Kp T' w w') (ht : ∀ k, T k → ¬ T' k) : Hx B M w' b x T := by
  obtain ⟨mo, f, c, N, h1, h2, h3, rfl⟩ := h
  exact ⟨mo, f, c, N, h1.kp hk ht, h2, h3, rfl⟩
theorem Hx.on {B M : Nat} {w w' : World} {b : Nat} {x : Ix} {T : Nat → Prop} (h : Hx B M w b x T) (hb : Below w.heap.size w w') : Hx B M w' b x T := h.kp (T' := fun _ => False) (Kp.of hb) (fun _ _ => id)
theorem Hx.mono {B M M' : Nat} {w : World} {b : Nat} {x : Ix} {T : Nat → Prop} (h : Hx B M w b x T) (hm : M ≤ M') : Hx B M' w b x T := by
  obtain ⟨mo, f, c, N, h1, h2, h3, h4⟩ := h
  exact ⟨mo, f, c, N, h1, Nat.le_trans h2 hm, fun n hn => Nat.le_trans (h3 n hn) hm, h4⟩
theorem Hx.T_ge {B M : Nat} {w : World} {b : Nat} {x : Ix} {T : Nat → Prop} (h : Hx B M w b x T) : ∀ k, T k → B ≤ k := by
  obtain ⟨mo, f, c, N, h1, h2, h3, rfl⟩ := h; exact h1.T_ge
theorem Hx.T_lt {B M : Nat} {w : World} {b : Nat} {x : Ix} {T : Nat → Prop} (h : Hx B M w b x T) : ∀ k, T k → k < w.heap.size := by
  obtain ⟨mo, f, c, N, h1, h2, h3, rfl⟩ := h; exact h1.T_lt
theorem Hx.self {B M : Nat} {w : World} {b : Nat} {x : Ix} {T : Nat → Prop} (h : Hx B M w b x T) : T b := by
  obtain ⟨mo, f, c, N, h1, h2, h3, rfl⟩ := h; exact .inl rfl
theorem Hx.le {B B' M : Nat} {w : World} {b : Nat} {x : Ix} {T : Nat → Prop} (h : Hx B M w b x T) (hb : B' ≤ B) : Hx B' M w b x T := by
  obtain ⟨mo, f, c, N, h1, h2⟩ := h
  exact ⟨mo, f, c, N, h1.le hb, h2⟩
theorem Hx.made {B : Nat} {w : World} {b : Nat} (h : Hk B w b none (fun _ => 0) (fun _ => 0) 0 Ix.none) : Hx B 0 w b Ix.none (fun k => k = b) := by
  refine ⟨_, _, _, _, h, Nat.le_refl _, fun n hn => (by cases hn), funext fun k => propext ⟨fun e => .inl e, ?_⟩⟩
  rintro (e | e | ⟨n, hn, _⟩)
  · exact e
  · cases e
  · cases hn
/- What Add makes of an index. -/
def addX (x : Ix) (nm : ByteArray) (kc : List Cl) (kv : List Vl) (vc : List Cl) (vv : List Vl) : Ix := (x.see nm).put nm (addG (addG (x.bits nm) kc kv) vc vv)
abbrev Sc (nm : ByteArray) (ks vs : Value) : Value := .agg #[.string nm, ks, vs]
abbrev Po (sc : ByteArray) (ks : Value) (t : Int) (vs : Value) : Value := .agg #[.string sc, ks, .int .i64 t, vs]
theorem box_on {T : Nat → Prop} {w w' : World} {n : Nat} {F : Nat → Option Value} (h : ∀ o, w.cell? ⟨n, o, none⟩ = F o) (hk : Kp T w w') (hn : n < w.heap.size) (ht : ¬ T n) : ∀ o, w'.cell? ⟨n, o, none⟩ = F o := fun o => (World.cell?_of_block (a := ⟨n, o, none⟩) (hk.block n hn ht)).trans (h o)
theorem SeeP.off {B : Nat} {w1 : World} {b : Nat} {mo : Option Nat} {f c : ByteArray → Nat} {N : Nat} {x : Ix} {s : ByteArray} {e : Ending} {w2 : World} {m' : Nat} {f' c' : ByteArray → Nat} {N' k : Nat} (h : SeeP B w1 b mo f c N x s e w2 m' f' c' N') (hk : k < w1.heap.size) (ht : ¬ Th b mo f x k) : f' s ≠ k := fun e => by
  rcases h.gr (f' s) (.inr (.inr ⟨s, by simp [Ix.see], rfl⟩)) with h1 | h1
  · rw [e] at h1; exact ht h1
  · omega
theorem SeeP.inn {B : Nat} {w1 : World} {b : Nat} {mo : Option Nat} {f c : ByteArray → Nat} {N : Nat} {x : Ix} {s : ByteArray} {e : Ending} {w2 : World} {m' : Nat} {f' c' : ByteArray → Nat} {N' M : Nat} (h : SeeP B w1 b mo f c N x s e w2 m' f' c' N') (hc : ∀ n, x.seen n = true → c n ≤ M) : Fm w2 (f' s) M (x.bits s) := by
  have h1 := (h.hk.inn s (by simp [Ix.see])).2
  refine h1.mono ?_
  cases hx : x.seen s with
  | true => rw [(h.cs s hx).1]; exact hc s hx
  | false => rw [(h.new hx).1]; exact Nat.zero_le _
set_option maxRecDepth 100000 in
set_option maxHeartbeats 2000000 in
theorem add_any {B M : Nat} {w : World} {b : Nat} {x : Ix} {T : Nat → Prop} (h : Hx B M w b x T) (hB : B ≤ w.heap.size) {Q : Nat → Prop} (hQ : ∀ k, Q k → ¬ T k ∧ k < w.heap.size) {nm sc : ByteArray} {t : Int} {ks vs pk pv : Value} {kc vc : List Cl} {kv vv : List Vl}
    (hn : nm.size ≤ maxLen) (h1 : SlAt Q Cl.cells 2 w ks kc) (h2 : SlAt Q Vl.cells 11 w pk kv) (h3 : SlAt Q Cl.cells 2 w vs vc) (h4 : SlAt Q Vl.cells 11 w pv vv)
    (hM : M + kc.length + vc.length + 1 < maxLen) (c1 : ∀ c ∈ kc, c.nm.size ≤ maxLen) (c3 : ∀ c ∈ vc, c.nm.size ≤ maxLen) (s2 : ∀ v ∈ kv, v.s.size ≤ 562949953421312) (s4 : ∀ v ∈ vv, v.s.size ≤ 562949953421312) :
    Calls Try.prog 9 #[dp b, Sc nm ks vs, Po sc pk t pv] w fun e w' => e = .returned (.tuple #[]) ∧ ∃ T', Hx B (M + kc.length + vc.length + 1) w' b (addX x nm kc kv vc vv) T' ∧ (∀ k, T' k → T k ∨ w.heap.size ≤ k) ∧ Kp T w w' := by
  obtain ⟨mo, f, c, N, hk, hN, hc, rfl⟩ := h
  have HK := hid hk
  have HB := hid hB
  have HQ := hid hQ
  have HM := hid hM
  have HNn := hid hn
  have HN := hid hN
  have HC := hid hc
  have H1 := hid h1
  have H2 := hid h2
  have H3 := hid h3
  have H4 := hid h4
  have C1 := hid c1
  have C3 := hid c3
  have S2 := hid s2
  have S4 := hid s4
  clear hk hB hQ hM hn hN hc h1 h2 h3 h4 c1 c3 s2 s4
  obtain ⟨w1, hw1⟩ : ∃ w1, (w.alloc (.cells #[.string nm, ks, vs] 37)).alloc (.cells #[.string sc, pk, .int .i64 t, pv] 40) = w1 := ⟨_, rfl⟩
  have hb1 : Below w.heap.size w w1 := by rw [← hw1]; exact ((Below.refl _ _).alloc (Nat.le_refl _) _).alloc (by simp) _
  have k1 : ∀ o, w1.cell? ⟨w.heap.size, o, none⟩ = #[.string nm, ks, vs][o]? := by rw [← hw1]; exact block_cell ((Kp.alloc (fun _ => False) _ _).blk (alloc_block _ _) id)
  have k2 : ∀ o, w1.cell? ⟨w.heap.size + 1, o, none⟩ = #[.string sc, pk, .int .i64 t, pv][o]? := by have hs := alloc_block (w.alloc (.cells #[.string nm, ks, vs] 37)) (.cells #[.string sc, pk, .int .i64 t, pv] 40); rw [World.size_alloc, hw1] at hs; exact block_cell hs
  have hz : w.heap.size + 1 < w1.heap.size := by rw [← hw1]; simp
  have HW := hid hw1
  have HZ := hid hz
  have HB1 := hid hb1
  clear hw1 hb1
  have HTl := hid HK.out.T_lt
  have HTi : Hid (∀ k, k = b ∨ mo = some k → Th b mo f x k) := fun k e => e.elim .inl (fun e => .inr (.inl e))
  go_enter Try.func9, Try.ntmps9
  go_upto_region 1 with fail
  rw [HW.out]
  go_wp2_with (first
    | (go_at_call 23; refine (see_any (HK.out.on HB1.out) HNn.out (by have := HM.out; have := HN.out; omega) (Nat.le_trans HB.out HB1.out.size)).mono ?_; rintro e w2 ⟨m', f', c', N', hp⟩; obtain ⟨rfl, -⟩ : e = .returned (mp (f' nm)) ∧ True := ⟨hp.ret, trivial⟩; have HP := hid hp; clear hp; have hsz := HP.out.kp.size; replace k1 := box_on k1 HP.out.kp (by omega) (fun e => by have := HTl.out _ (HTi.out _ e); omega); replace k2 := box_on k2 HP.out.kp hz (fun e => by have := HTl.out _ (HTi.out _ e); omega); replace hz := Nat.lt_of_lt_of_le hz hsz; have HO : Hid (∀ k, k < w1.heap.size → ¬ Th b mo f x k → f' nm ≠ k) := fun k => HP.out.off; have HI := hid (HP.out.inn HC.out); have HKa : Hid (Kp (Th b mo f x) w w2) := (Kp.of HB1.out).trans' HP.out.kp (fun i _ e => HTi.out i e); have hb1s := HB1.out.size; have M1 : Hid True := trivial)
    | (go_at_call 24; clear M1; refine (addTexts_any HI.out (by have := HM.out; omega) (H1.out.kp HKa.out (fun k hq => (HQ.out k hq).1)) (H2.out.kp HKa.out (fun k hq => (HQ.out k hq).1)) (fun hq => HO.out _ (by have := (HQ.out _ hq).2; omega) (HQ.out _ hq).1 rfl) C1.out S2.out).mono ?_; rintro e w3 ⟨rfl, hm3, hk3⟩; have HM3 := hid hm3; have HK3 := hid hk3; replace k1 := box_on k1 hk3 (by omega) (fun e => HO.out _ (by have := HZ.out; omega) (fun e => by have := HTl.out _ e; omega) e.symm); replace k2 := box_on k2 hk3 hz (fun e => HO.out _ (by have := HZ.out; omega) (fun e => by have := HTl.out _ e; omega) e.symm); replace hz := Nat.lt_of_lt_of_le hz hk3.size; clear hm3 hk3)
    | (go_at_call 24; refine (addTexts_any HM3.out (by have := HM.out; omega) ((H3.out.kp HKa.out (fun k hq => (HQ.out k hq).1)).kp HK3.out (fun k hq e => HO.out _ (by have := (HQ.out _ hq).2; omega) (HQ.out _ hq).1 e.symm)) ((H4.out.kp HKa.out (fun k hq => (HQ.out k hq).1)).kp HK3.out (fun k hq e => HO.out _ (by have := (HQ.out _ hq).2; omega) (HQ.out _ hq).1 e.symm)) (fun hq => HO.out _ (by have := (HQ.out _ hq).2; omega) (HQ.out _ hq).1 rfl) C3.out S4.out).mono ?_; rintro e w4 ⟨rfl, hm4, hk4⟩; have HM4 := hid hm4; have HK4 := hid hk4; clear hm4 hk4))
  go_end0
  refine ⟨rfl, Th b (some m') f' (x.see nm), ⟨some m', f', _, N', HP.out.hk.inner (by simp [Ix.see]) (HK3.out.trans HK4.out) HM4.out, by have := HP.out.most; have := HN.out; omega, fun n hn => ?_, rfl⟩, fun k hk => (HP.out.gr k hk).imp id (fun h => Nat.le_trans hb1s h), ?_⟩
  · show (if n = nm then M + kc.length + vc.length else c' n) ≤ _
    split
    · omega
    · rename_i e
      have hs : x.seen n = true := by
        have : (x.see nm).seen n = true := hn
        simpa [Ix.see, e] using this
      rw [(HP.out.cs n hs).1]
      have := HC.out n hs
      omega
  · refine HKa.out.trans' (HK3.out.trans HK4.out) (fun i hi e => ?_)
    by_cases ht : Th b mo f x i
    · exact ht
    · exact absurd e.symm (HO.out i (by omega) ht)
end Go.Proofs.Ytmkilckoeaekkaa
