/-
  The reference's run in memory, and what its Get and Range return.
-/
import Derived.Test.YtkjbnanjlcdgjaaQRange
namespace Go.Proofs.Ytkjbnanjlcdgjaa
open Go.RowKit Go.Sort Go.Shelf

/- The reference's run in memory. -/
structure Ry (B : Nat) (P : Nat → Prop) (w : World) (y : Nat) (yv : Value) (l : List Sp) : Prop where
  yB : B ≤ y
  blk : w.heap[y]? = some (.cells #[yv] 29)
  up : Up l
  row : ∃ hs, Own Sh.cells 2 32 B w yv hs ∧ HeadsS P w hs l
def Ty (y : Nat) (yv : Value) (k : Nat) : Prop := k = y ∨ yv.ownBlock = some k
theorem Ry.kp {B : Nat} {P T : Nat → Prop} {w w' : World} {y : Nat} {yv : Value} {l : List Sp} (h : Ry B P w y yv l) (hk : Kp T w w') (hb : ∀ k, Ty y yv k → ¬ T k) (ht : ∀ k, ty36 P w k → ¬ T k) : Ry B P w' y yv l := by
  obtain ⟨hs, ho, hh⟩ := h.row
  exact ⟨h.yB, hk.blk h.blk (hb y (.inl rfl)), h.up, ⟨hs, own_kp ho hk (fun g hg => hb g (.inr hg)), hh.kp hk ht⟩⟩
theorem Ry.on {B : Nat} {P : Nat → Prop} {w w' : World} {y : Nat} {yv : Value} {l : List Sp} (h : Ry B P w y yv l) (hb : Below w.heap.size w w') : Ry B P w' y yv l :=
  h.kp (T := fun _ => False) (Kp.of hb) (fun _ _ => id) (fun _ _ => id)
theorem Ry.P {B : Nat} {P P' : Nat → Prop} {w : World} {y : Nat} {yv : Value} {l : List Sp} (h : Ry B P w y yv l) (hp : ∀ k, k < w.heap.size → P k → P' k) : Ry B P' w y yv l := by
  obtain ⟨hs, ho, hh⟩ := h.row
  exact ⟨h.yB, h.blk, h.up, ⟨hs, ho, hh.P hp⟩⟩
theorem Ry.T_kind {B : Nat} {P : Nat → Prop} {w : World} {y : Nat} {yv : Value} {l : List Sp} (h : Ry B P w y yv l) : ∀ k, Ty y yv k → B ≤ k ∧ ∃ cs t fz, w.heap[k]? = some (.cells cs t fz) ∧ (t = 29 ∨ t = 32) := by
  obtain ⟨hs, ho, hh⟩ := h.row
  rintro k (rfl | hk)
  · exact ⟨h.yB, _, _, _, h.blk, .inl rfl⟩
  · obtain ⟨c, f, hc⟩ := own_kind ho hk
    exact ⟨(own_at ho hk).1, _, _, _, hc, .inr rfl⟩
theorem Ry.T_lt {B : Nat} {P : Nat → Prop} {w : World} {y : Nat} {yv : Value} {l : List Sp} (h : Ry B P w y yv l) : ∀ k, Ty y yv k → k < w.heap.size := fun k hk => by
  obtain ⟨-, _, _, _, hc, _⟩ := h.T_kind k hk
  exact lt_of_block hc
theorem Ry.T_not {B : Nat} {P : Nat → Prop} {w : World} {y : Nat} {yv : Value} {l : List Sp} (h : Ry B P w y yv l) {k : Nat} {cs : Array Value} {t : TypeId} {fz : Nat × Nat} (hk : w.heap[k]? = some (.cells cs t fz)) (h1 : t ≠ 29) (h3 : t ≠ 32) : ¬ Ty y yv k := by
  intro hT
  obtain ⟨-, cs', t', fz', hc, ht⟩ := h.T_kind k hT
  rw [hc] at hk; cases hk
  rcases ht with e | e
  · exact h1 e
  · exact h3 e
theorem Ry.ty_not {B : Nat} {P P' : Nat → Prop} {w : World} {y : Nat} {yv : Value} {l : List Sp} (h : Ry B P w y yv l) {k : Nat} (hk : ty36 P' w k) : ¬ Ty y yv k := by
  obtain ⟨-, c, fz, hc⟩ := hk
  exact h.T_not hc (by decide) (by decide)
theorem ry_new {B : Nat} {P : Nat → Prop} {w : World} (hB : B ≤ w.heap.size) : Ry B P (w.alloc (.cells #[.slice none 0 0] 29)) w.heap.size (.slice none 0 0) [] :=
  ⟨hB, alloc_block _ _, up_nil, ⟨[], Own.nil _ _ _ _ _, HeadsS.nil _ _⟩⟩
theorem ry_sl {B : Nat} {P : Nat → Prop} {w : World} {y : Nat} {yv : Value} {l : List Sp} (h : Ry B P w y yv l) (hlen : l.length ≤ 1000) :
    ∃ p c, yv = .slice p l.length c ∧ l.length ≤ c ∧ ∀ j s, l[j]? = some s → ∃ g o kp kc, p = some ⟨g, o, none⟩ ∧ w.cell? ⟨g, o + j * 2, none⟩ = some (.int .i64 s.t) ∧ w.cell? ⟨g, o + j * 2 + 1, none⟩ = some (.slice kp (List.length s.vs) kc) ∧ RowIn (ty36 P w) w (.slice kp (List.length s.vs) kc) s.vs := by
  obtain ⟨hs, ho, hh⟩ := h.row
  exact own_sl ho hh hlen
set_option maxRecDepth 100000 in
set_option maxHeartbeats 2000000 in
theorem rget_any {B : Nat} {P : Nat → Prop} {w : World} {y : Nat} {yv : Value} {l : List Sp} {at' : Int} (h : Ry B P w y yv l) (hlen : l.length ≤ 1000) :
    Calls Try.prog 12 #[dp y, .int .i64 at'] w fun e w' => ∃ p c, e = .returned (.tuple #[.slice p (List.length (getT l at')) c, .bool (hasT l at')]) ∧ RowAt w' (.slice p (List.length (getT l at')) c) (getT l at') ∧ Below w.heap.size w w' := by
  have HBk := hid h.blk
  obtain ⟨p, c, rfl, hcap, hx⟩ := ry_sl h hlen
  have HX := hid hx
  clear hx h
  generalize hn : l.length = n at *
  have HN := hid hn
  clear hn
  generalize hgg : getT l at' = gg
  generalize hqq : hasT l at' = qq
  have HGG := hid hgg
  have HQQ := hid hqq
  clear hgg hqq
  go_enter Try.func12, Try.ntmps12
  go_wp2
  go_loopw [6] (fun i wr => ∃ k : Nat, k ≤ n ∧ i = .int .i64 k ∧ Hid (∀ j s, j < k → l[j]? = some s → s.t ≠ at') ∧ Hid (Below w.heap.size w wr)) (fun i _ => n - (intOf i).toNat)
  case atStart => exact ⟨0, by omega, rfl, (fun j s hj => absurd hj (Nat.not_lt_zero _)), Below.refl _ _⟩
  case round =>
    obtain ⟨k, hk, rfl, HA, HB⟩ := hrel
    obtain ⟨W1, hW1⟩ : ∃ W, W = wr := ⟨wr, rfl⟩
    subst hW1
    have k0 := block_cell (block_on HBk.out HB.out)
    by_cases hlt : k < n
    · have hk' : k < l.length := by rw [HN.out]; exact hlt
      obtain ⟨s, hs⟩ : ∃ s, l[k]? = some s := ⟨l[k], List.getElem?_eq_getElem hk'⟩
      obtain ⟨g, o, kp, kc, rfl, c0, c1, hr⟩ := HX.out k s hs
      have d0 := cell_onB c0 HB.out
      have d1 := cell_onB c1 HB.out
      have HS := hid hs
      have HR := hid (hr.at.on HB.out)
      clear c0 c1 hr hs
      by_cases he : s.t = at'
      · have hg2 := getT_first HA.out HS.out he
        have hq2 := hasT_of HS.out he
        rw [HGG.out] at hg2
        rw [HQQ.out] at hq2
        subst hg2 hq2
        have k0a : ∀ (A : Obj) (o' : Nat), (W1.alloc A).cell? ⟨y, o', none⟩ = (#[.slice (some ⟨g, o, none⟩) n c] : Array Value)[o']? := fun A o' => block_cell (block_on HBk.out (HB.out.alloc HB.out.size A)) o'
        have d1a : ∀ (A : Obj), (W1.alloc A).cell? ⟨g, o + k * 2 + 1, none⟩ = some (.slice kp (List.length s.vs) kc) := fun A => Lib.cell?_alloc_some _ d1
        go_wp2_with (at_builtin; refine app_any elem48 vl_len (fun x _ => vl_cells x) rfl _ _ rfl rfl (Own.made Vl.cells 11 36 W1.heap.size W1 (Nat.le_refl _)) rfl (SlAt.on HR.out ((Below.refl _ _).alloc (Nat.le_refl _) _)) (by simpa using SlAt.bound HR.out) (by simp) ?_; intro v' w1 hown hb1)
        go_ret2
        rw [List.nil_append] at hown
        have hr := Own.sl hown vl_len (SlAt.bound HR.out)
        obtain ⟨p, c, rfl⟩ := own_formN hown rfl
        exact ⟨p, c, rfl, hr.imp (fun _ _ => trivial), HB.out.trans ((((Below.refl _ _).alloc (Nat.le_refl _) _).trans hb1).mono HB.out.size)⟩
      · go_wp2
        go_roundw
        case rel =>
          refine ⟨k + 1, by omega, by go_num, fun j x hj hx => ?_, HB.out⟩
          by_cases e : j = k
          · subst e; rw [HS.out] at hx; cases hx; exact he
          · exact HA.out j x (by omega) hx
        case measure => simp [intOf]; omega
    · have hks : k = n := by omega
      subst hks
      have hq2 : hasT l at' = false := hasT_before (fun j s hj hs => HA.out j s (by rw [← HN.out]; exact hj) hs)
      have hg2 := getT_no hq2
      rw [HGG.out] at hg2
      rw [HQQ.out] at hq2
      subst hg2 hq2
      go_wp2
      go_ret2
      exact ⟨none, 0, rfl, SlAt.nil _ _ _ _, HB.out⟩
set_option maxRecDepth 100000 in
set_option maxHeartbeats 4000000 in
theorem rrange_any {B : Nat} {P : Nat → Prop} {w : World} {y : Nat} {yv : Value} {l : List Sp} {a z : Int} (h : Ry B P w y yv l) (hlen : l.length ≤ 500) :
    Calls Try.prog 17 #[dp y, .int .i64 a, .int .i64 z] w fun e w' => ∃ v hs, e = .returned v ∧ Own Sh.cells 2 32 w.heap.size w' v hs ∧ HeadsS P w' hs (rngS l a z) ∧ Below w.heap.size w w' := by
  have HBk := hid h.blk
  obtain ⟨p, c, rfl, hcap, hx⟩ := ry_sl h (by omega)
  have HX := hid hx
  clear hx h
  generalize hn : l.length = n at *
  have HN := hid hn
  clear hn
  generalize hrr : rngS l a z = rr
  have HRR := hid hrr
  clear hrr
  go_enter Try.func17, Try.ntmps17
  go_wp2
  go_loopw [7, 8] (fun ov i wr => ∃ (k : Nat) (hs : List Sh), k ≤ n ∧ i = .int .i64 k ∧ Hid (Own Sh.cells 2 32 w.heap.size wr ov hs) ∧ Hid (HeadsS P wr hs (rngS (l.take k) a z)) ∧ Hid (Below w.heap.size w wr)) (fun _ i _ => n - (intOf i).toNat)
  case atStart => exact ⟨0, [], by omega, rfl, Own.nil _ _ _ _ _, HeadsS.nil _ _, Below.refl _ _⟩
  case round =>
    obtain ⟨k, hs, hk, rfl, HO, HH, HB⟩ := hrel
    obtain ⟨W1, hW1⟩ : ∃ W, W = wr := ⟨wr, rfl⟩
    subst hW1
    have k0 := block_cell (block_on HBk.out HB.out)
    by_cases hlt : k < n
    · have hk' : k < l.length := by rw [HN.out]; exact hlt
      obtain ⟨s, hs'⟩ : ∃ s, l[k]? = some s := ⟨l[k], List.getElem?_eq_getElem hk'⟩
      obtain ⟨g, o, kp, kc, rfl, c0, c1, hr⟩ := HX.out k s hs'
      have d0 := cell_onB c0 HB.out
      have d1 := cell_onB c1 HB.out
      have HR := hid (row_kp (T := fun _ => False) hr (Kp.of HB.out) (fun _ _ => id))
      have HStep := hid (rng_step a z hs')
      have HLn := hid (Nat.le_trans (rng_len (l.take k) a z) (List.length_take_le _ _))
      clear c0 c1 hr hs'
      by_cases h1 : a ≤ s.t
      · by_cases h2 : s.t ≤ z
        · have hin : inR a z s = true := by simp [inR]; omega
          rw [hin, if_pos rfl] at HStep
          obtain ⟨p7, c7, rfl⟩ := own_formN HO.out HH.out.1
          generalize hrl : (rngS (l.take k) a z).length = rl at *
          have HRl := hid hrl
          clear hrl
          generalize hns : List.length s.vs = ns at *
          clear hns
          go_wp2_with (at_builtin; refine app_P (N := 32) (B := w.heap.size) (xs := hs) (ys := [⟨s.t, .slice kp ns kc⟩]) elem32 sh_len (fun x hx => by simp at hx; subst hx; exact sh_cells rfl) rfl _ _ rfl rfl (own_kp (T := fun _ => False) HO.out (Kp.of ((Below.refl _ _).alloc (Nat.le_refl _) _)) (fun _ _ => id)) rfl (sh_sl (s := ⟨s.t, .slice kp ns kc⟩) (alloc_block _ _)) (by rw [HH.out.1, HRl.out]; have := HLn.out; simp; omega) (by decide) (by rw [World.size_alloc]; exact Nat.le_succ_of_le HB.out.size) ?_; intro v5 w5 hown5 hg5 hat5; have HO5 := hid hown5; have HG5 := hid hg5; clear hown5 hg5 hat5)
          go_roundw
          case rel =>
            have hba := (Below.refl W1.heap.size W1).alloc (Nat.le_refl _) (.cells #[.int .i64 s.t, .slice kp ns kc] 32)
            have hoa := own_kp (T := fun _ => False) HO.out (Kp.of hba) (fun _ _ => id)
            have hkk := Kp.grown (T := fun x => (Value.slice p7 rl c7).ownBlock = some x) HG5.out (fun k e => e)
            have hh4 := (HH.out.on hba).kp hkk (fun k hk e => by obtain ⟨-, x, y, hx⟩ := hk; obtain ⟨x', y', hx'⟩ := own_kind hoa e; rw [hx] at hx'; cases hx')
            have hr4 := row_kp (row_kp (T := fun _ => False) HR.out (Kp.of hba) (fun _ _ => id)) hkk (fun k hk e => by obtain ⟨-, x, y, hx⟩ := hk; obtain ⟨x', y', hx'⟩ := own_kind hoa e; rw [hx] at hx'; cases hx')
            exact ⟨k + 1, _, by omega, by go_num, HO5.out, (by rw [HStep.out]; exact hh4.app (HeadsS.one (h := ⟨s.t, .slice kp ns kc⟩) (s := s) rfl hr4)), (HB.out.trans (hba.mono HB.out.size)).trans (own_below hoa HG5.out (Nat.le_trans HB.out.size hba.size))⟩
          case measure => simp [intOf]; omega
        · have hin : inR a z s = false := by simp [inR]; omega
          rw [hin, if_neg (by decide), List.append_nil] at HStep
          go_wp2
          go_roundw
          case rel => exact ⟨k + 1, hs, by omega, by go_num, HO.out, (by rw [HStep.out]; exact HH.out), HB.out⟩
          case measure => simp [intOf]; omega
      · have hin : inR a z s = false := by simp [inR]; omega
        rw [hin, if_neg (by decide), List.append_nil] at HStep
        go_wp2
        go_roundw
        case rel => exact ⟨k + 1, hs, by omega, by go_num, HO.out, (by rw [HStep.out]; exact HH.out), HB.out⟩
        case measure => simp [intOf]; omega
    · have hks : k = n := by omega
      subst hks
      have hta : l.take k = l := List.take_of_length_le (by rw [HN.out]; exact Nat.le_refl _)
      rw [hta, HRR.out] at HH
      go_wp2
      go_ret
      exact ⟨_, hs, rfl, HO.out, HH.out, HB.out⟩
end Go.Proofs.Ytkjbnanjlcdgjaa
