/-
  What the reference's Add returns, and what it leaves.
-/
import Derived.Test.YtnjeocjachmbkaaPF
import Derived.Test.YtnjeocjachmbkaaQXRef
namespace Go.Proofs.Ytnjeocjachmbkaa
open Go.RowKit Go.Sort Go.Maps Go.Shelf

def RAddPost (B : Nat) (P : Nat → Prop) (w : World) (y : Nat) (most : Int) (sv : Value) (l : List Sm) (s : Sm) (e : Ending) (w' : World) : Prop :=
  e = .returned (.tuple #[.int .i64 (addI most l s), .int .i64 (addE most l s)]) ∧ (∃ sv', Ry B P w' y most sv' (addL most l s)) ∧ Kp (Ty y sv) w w'
theorem rvalid_is {x : Vl} {r : Bool} {w : World} (h : validL x = r) : Calls Try.prog 29 #[x.val] w fun e w' => e = .returned (.bool r) ∧ Below w.heap.size w w' := by rw [← h]; exact rvalid_any
theorem ry_ne {B : Nat} {P : Nat → Prop} {w : World} {y : Nat} {most : Int} {sv : Value} {l : List Sm} (h : Ry B P w y most sv l) : sv.ownBlock ≠ some y := by
  obtain ⟨hs, ho, hh⟩ := h.row
  intro e
  obtain ⟨c, f, hc⟩ := own_kind ho e
  rw [h.blk] at hc; cases hc
theorem ry_grown {B : Nat} {P : Nat → Prop} {w w3 : World} {y : Nat} {most : Int} {sv : Value} {l : List Sm} (h : Ry B P w y most sv l) (hg : w.grownBy w3 sv.ownBlock) : w3.heap[y]? = some (.cells #[.int .i64 most, sv] 39) := by
  have hk : Kp (fun k => sv.ownBlock = some k) w w3 := Kp.grown hg (fun k e => e)
  exact hk.blk h.blk (ry_ne h)
theorem ry_added {B : Nat} {P : Nat → Prop} {w w2 w3 : World} {y : Nat} {most : Int} {sv v2 v3 : Value} {l : List Sm} {s : Sm} {hs : List Hd} {o : Obj} (h : Ry B P w y most sv l) (hh : HeadsD P w hs l) (hb2 : Below w.heap.size w w2) (hr2 : RowIn (ty25 P w2) w2 v2 s.ks)
    (hown3 : Own Hd.cells 2 53 B w3 v3 (hs ++ [⟨s.nm, v2⟩])) (hg3 : (w2.alloc o).grownBy w3 sv.ownBlock) :
    Ry B P (w3.setCell ⟨y, 1, none⟩ v3) y most v3 (l ++ [s]) ∧ Kp (Ty y sv) w (w3.setCell ⟨y, 1, none⟩ v3) := by
  have h2 := h.on hb2
  have h2a := h2.on ((Below.refl _ _).alloc (Nat.le_refl _) o)
  have kb3 := ry_grown h2a hg3
  have hk3 : Kp (Ty y sv) (w2.alloc o) w3 := Kp.grown hg3 (fun k e => .inr e)
  have hk4 : Kp (Ty y sv) w3 (w3.setCell ⟨y, 1, none⟩ v3) := Kp.set (.inl rfl) _
  have hka : Kp (Ty y sv) w2 (w2.alloc o) := Kp.of ((Below.refl _ _).alloc (Nat.le_refl _) o)
  have hk25 : Kp (Ty y sv) w2 (w3.setCell ⟨y, 1, none⟩ v3) := hka.trans (hk3.trans hk4)
  have hk : Kp (Ty y sv) w (w3.setCell ⟨y, 1, none⟩ v3) := (Kp.of hb2).trans hk25
  refine ⟨⟨h.yB, set_block kb3 v3, ⟨hs ++ [⟨s.nm, v2⟩], ?_, ?_⟩⟩, hk⟩
  · have hk6 : Kp (fun k => k = y) w3 (w3.setCell ⟨y, 1, none⟩ v3) := Kp.set (T := fun k => k = y) rfl v3
    refine own_kp hown3 hk6 (fun g hg e => ?_)
    obtain ⟨c, f, hc⟩ := own_kind hown3 hg
    subst e
    rw [kb3] at hc; cases hc
  · refine HeadsD.snoc (hh.kp hk (fun k hk => ?_)) rfl (row_kp hr2 hk25 (fun k hk => ?_))
    · obtain ⟨-, c, fz, hc⟩ := hk
      exact h.T_not hc (by decide) (by decide)
    · obtain ⟨-, c, fz, hc⟩ := hk
      exact h2.T_not hc (by decide) (by decide)
set_option maxRecDepth 100000 in
set_option maxHeartbeats 4000000 in
theorem radd_any {B : Nat} {P : Nat → Prop} {w : World} {y : Nat} {most : Int} {sv v : Value} {l : List Sm} {s : Sm} (h : Ry B P w y most sv l) (hlen : l.length ≤ 1000) (hv : RowAt w v s.ks) (hl : List.length s.ks ≤ 2000000) (hP : ∀ k, w.heap.size ≤ k → P k) (hB : B ≤ w.heap.size) :
    Calls Try.prog 18 #[dp y, .string s.nm, v] w (RAddPost B P w y most sv l s) := by
  have HK := hid h
  have HV := hid hv
  have HL := hid hl
  have HP := hid hP
  have HLen := hid hlen
  obtain ⟨hs, ho, hh⟩ := h.row
  have HO := hid ho
  have HH := hid hh
  obtain ⟨p, c, rfl⟩ := own_formN ho hh.1
  obtain ⟨p', c', rfl, hcap', hmax', hx⟩ := hv
  have HX := hid hx
  unfold maxLen at hmax'
  clear h ho hh hx hP hlen hl
  generalize hns : List.length s.ks = ns at *
  have HNS := hid hns
  clear hns
  go_enter Try.func18, Try.ntmps18
  go_wp2
  go_loopw [8] (fun i wr => ∃ k : Nat, k ≤ ns ∧ i = .int .i64 k ∧ Hid (okK (s.ks.take k) = true) ∧ Hid (Below w.heap.size w wr)) (fun i _ => ns - (intOf i).toNat)
  case atStart => exact ⟨0, by omega, rfl, rfl, Below.refl _ _⟩
  case round =>
    obtain ⟨k, hk, rfl, HOk, HB1⟩ := hrel
    obtain ⟨W1, hW1⟩ : ∃ W, W = wr := ⟨wr, rfl⟩
    subst hW1
    by_cases hlt : k < ns
    · have hk' : k < List.length s.ks := by rw [HNS.out]; exact hlt
      obtain ⟨x, hxk⟩ : ∃ x, s.ks[k]? = some x := ⟨s.ks[k], List.getElem?_eq_getElem hk'⟩
      obtain ⟨b, o, hpe, -, hj⟩ := HX.out (by intro e; rw [e] at hk'; simp at hk')
      cases hpe
      obtain ⟨c0, c1, c2, c3, c4, c5, c6, c7, c8, c9, c10⟩ := val_cells ((hj k x hxk).on HB1.out)
      have HXK := hid hxk
      clear hxk hj
      cases hval : validL x with
      | true =>
        have HVl := hid hval
        clear hval
        go_wp2_with (go_at_call 29; refine (rvalid_is HVl.out).mono ?_; rintro e w2 ⟨rfl, hb2⟩)
        go_roundw
        case rel => exact ⟨k + 1, by omega, by go_num, (okK_take HXK.out HOk.out).trans HVl.out, HB1.out.trans (hb2.mono HB1.out.size)⟩
        case measure => simp [intOf]; omega
      | false =>
        have hbad := okK_bad HXK.out hval
        have E1 : Hid (addI most l s = 0) := by show _ = _; unfold addI; rw [hbad]; rfl
        have E2 : Hid (addE most l s = 10) := by show _ = _; unfold addE; rw [hbad]; rfl
        have E4 := hid (addL_bad (most := most) (l := l) hbad)
        have HVl := hid hval
        clear hval hbad
        go_wp2_with (go_at_call 29; refine (rvalid_is HVl.out).mono ?_; rintro e w2 ⟨rfl, hb2⟩)
        have hb3 := HB1.out.trans (hb2.mono HB1.out.size)
        exact bodyPost_ret (v := .tuple #[.int .i64 (addI most l s), .int .i64 (addE most l s)]) (by simp [results, Try.results18, go_sem, E1.out, E2.out]) rfl ⟨rfl, ⟨_, by rw [E4.out]; exact HK.out.on hb3⟩, Kp.of hb3⟩
    · have hks : k = ns := by omega
      have hta : s.ks.take k = s.ks := List.take_of_length_le (by rw [HNS.out, hks]; exact Nat.le_refl _)
      have hok : okK s.ks = true := by have := HOk.out; rw [hta] at this; exact this
      subst hks
      clear hta HX HOk
      have HK1 := hid (HK.out.on HB1.out)
      cases hm : memS l s with
      | true =>
        have hm' : s ∈ l := by simpa [memS] using hm
        have E1 : Hid (addI most l s = findI l s) := by show _ = _; unfold addI findI; rw [hok, if_pos rfl, if_pos hm', if_pos hm']
        have E2 : Hid (addE most l s = 0) := by show _ = _; unfold addE; rw [hok, if_pos rfl, if_pos hm']
        have E5 := hid (addL_in (most := most) hm)
        have HM := hid hm
        clear hok hm hm'
        go_wp2_with (go_at_call 17; refine (rfind_any HK1.out HLen.out (HV.out.on HB1.out)).mono ?_; rintro e w2 ⟨rfl, hb2⟩; rw [HM.out])
        have hb3 := HB1.out.trans (hb2.mono HB1.out.size)
        exact bodyPost_ret (v := .tuple #[.int .i64 (addI most l s), .int .i64 (addE most l s)]) (by simp [results, Try.results18, go_sem, E1.out, E2.out]) rfl ⟨rfl, ⟨_, by rw [E5.out]; exact HK.out.on hb3⟩, Kp.of hb3⟩
      | false =>
        have hm' : s ∉ l := by simpa [memS] using hm
        have HM := hid hm
        cases hf : fullB most l with
        | true =>
          have hge : most ≤ (l.length : Int) := by simpa [fullB] using hf
          have E1 : Hid (addI most l s = 0) := by show _ = _; unfold addI; rw [hok, if_pos rfl, if_neg hm', hf, if_pos rfl]
          have E2 : Hid (addE most l s = 80) := by show _ = _; unfold addE; rw [hok, if_pos rfl, if_neg hm', hf, if_pos rfl]
          have E5 := hid (addL_full (s := s) hf)
          clear hok hm hm' hf
          go_wp2_with (go_at_call 17; refine (rfind_any HK1.out HLen.out (HV.out.on HB1.out)).mono ?_; rintro e w2 ⟨rfl, hb2⟩; rw [HM.out]; have HB2 := hid (HB1.out.trans (hb2.mono HB1.out.size)); have k2 := block_cell (HK.out.on HB2.out).blk; clear hb2)
          go_quiet (fail)
          go_wp2
          exact bodyPost_ret (v := .tuple #[.int .i64 (addI most l s), .int .i64 (addE most l s)]) (by simp [results, Try.results18, go_sem, E1.out, E2.out]) rfl ⟨rfl, ⟨_, by rw [E5.out]; exact HK.out.on (below_drewN HB2.out _)⟩, Kp.of (below_drewN HB2.out _)⟩
        | false =>
          have hge : ¬ most ≤ (l.length : Int) := by simpa [fullB] using hf
          have E1 : Hid (addI most l s = (l.length : Int)) := by show _ = _; unfold addI; rw [hok, if_pos rfl, if_neg hm', hf, if_neg (by decide)]
          have E2 : Hid (addE most l s = 0) := by show _ = _; unfold addE; rw [hok, if_pos rfl, if_neg hm', hf, if_neg (by decide)]
          have E5 := hid (addL_new hok hm hf)
          clear hok hm hm' hf
          go_wp2_with (go_at_call 17; refine (rfind_any HK1.out HLen.out (HV.out.on HB1.out)).mono ?_; rintro e w2 ⟨rfl, hb2⟩; rw [HM.out]; have HB2 := hid (HB1.out.trans (hb2.mono HB1.out.size)); have k2 := block_cell (HK.out.on HB2.out).blk; clear hb2)
          go_quiet (fail)
          have HB3 := hid (below_drewN HB2.out nq)
          generalize w2.drewN nq = W3 at *
          clear k2
          go_wp2_with fail
          have HK3 := hid (HK.out.on HB3.out)
          have HK3d : Hid (Ry B P W3.drew y most (.slice p l.length c) l) := HK3.out.on (Below.refl _ _).drew
          have k3d := block_cell HK3d.out.blk
          have k3a : ∀ (A : Obj) (o : Nat), (W3.alloc A).cell? ⟨y, o, none⟩ = (#[.int .i64 most, .slice p l.length c] : Array Value)[o]? := fun A o => block_cell (HK3.out.on ((Below.refl _ _).alloc (Nat.le_refl _) A)).blk o
          have HB3d : Hid (Below w.heap.size w W3.drew) := HB3.out.drew
          have HVa : Hid (RowAt (W3.alloc (.cells #[] 25)).drew (.slice p' k c') s.ks) := HV.out.on (HB3.out.alloc HB3.out.size _).drew
          have HPa := hid (fun k hk => HP.out k (Nat.le_trans HB3.out.size hk))
          have HMd : Hid (Own Vl.cells 11 25 W3.heap.size (W3.alloc (.cells #[] 25)).drew (.slice (some ⟨W3.heap.size, 0, none⟩) 0 0) ([] : Rw)) := Own.made Vl.cells 11 25 W3.heap.size W3 (Nat.le_refl _)
          have M1 : Hid True := trivial
          go_region_law (first
            | (have FIRST := M1; refine step_appN (N := bsz 11) (B := W3.heap.size) (xs := []) (ys := s.ks) elem48.N vl_len (fun x _ => vl_cells x) rfl (.tmp 48) (.tmp 49) rfl (by simp [Act.eval]; try rfl) (by simp [Act.eval]; try rfl) HMd.out HVa.out (by have := SlAt.bound HV.out; simpa using this) (by decide) (by simp) ?_; intro v4 w4 hown4 hg4; rw [List.nil_append] at hown4; have HR4 := hid (own_rowT (P := P) hown4 HPa.out (SlAt.bound HV.out)); have HB4 : Hid (Below W3.heap.size W3 w4) := (((Below.refl _ _).alloc (Nat.le_refl _) (.cells #[] 25)).drew.trans ((Below.refl _ _).grown hg4 (by simp) (fun k e => by cases e; exact Nat.le_refl _))); obtain ⟨p4, c4, rfl⟩ := own_formN hown4 HNS.out; have HK4 := hid (HK3.out.on HB4.out); have k4 := block_cell HK4.out.blk; have k4a : ∀ (A : Obj) (o : Nat), (w4.alloc A).cell? ⟨y, o, none⟩ = (#[.int .i64 most, .slice p l.length c] : Array Value)[o]? := (fun A o => block_cell (HK4.out.on ((Below.refl _ _).alloc (Nat.le_refl _) A)).blk o); clear FIRST M1 hown4 hg4 HMd HVa)
            | (refine step_appN (N := 40) (B := B) (xs := hs) (ys := [⟨s.nm, .slice p4 k c4⟩]) elem53 hd_len (fun x hx => by simp at hx; subst hx; exact hd_cells rfl) rfl (.tmp 46) (.tmp 52) rfl (by simp [Act.eval]; try rfl) (by simp [Act.eval]; try rfl) (own_kp (T := fun _ => False) HO.out (Kp.of ((HB3.out.trans (HB4.out.mono HB3.out.size)).alloc (Nat.le_trans HB3d.out.size HB4.out.size) _)) (fun _ _ => id)) head1 (small40 (by rw [HH.out.1]; exact HLen.out)) (by decide) (by rw [World.size_alloc]; exact Nat.le_trans hB (Nat.le_trans HB3d.out.size (Nat.le_succ_of_le HB4.out.size))) ?_; intro v5 w5 hown5 hg5; obtain ⟨p5, c5, rfl⟩ := own_formN (n := l.length + 1) hown5 (by rw [List.length_append, HH.out.1]; rfl); have HO5 := hid hown5; have HG5 := hid hg5; have KB5 := hid (ry_grown (HK4.out.on ((Below.refl _ _).alloc (Nat.le_refl _) _)) hg5); have k5 := block_cell KB5.out; have f5 := block_frozen KB5.out; clear hown5 hg5))
          all_goals
            have k6 := block_cell (set_block (i := 1) KB5.out (.slice p5 (l.length + 1) c5))
            have hln : l.length ≤ 1000 := HLen.out
            clear k5 f5 k3d k3a k4 k4a
            go_wp2
            obtain ⟨hf1, hf2⟩ := ry_added HK.out HH.out (HB3.out.trans (HB4.out.mono HB3.out.size)) HR4.out HO5.out HG5.out
            exact bodyPost_ret (v := .tuple #[.int .i64 (addI most l s), .int .i64 (addE most l s)]) (by simp [results, Try.results18, go_sem, E1.out, E2.out]) rfl ⟨rfl, ⟨_, by rw [E5.out]; exact hf1⟩, hf2⟩
end Go.Proofs.Ytnjeocjachmbkaa
