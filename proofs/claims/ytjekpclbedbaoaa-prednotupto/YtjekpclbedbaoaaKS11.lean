/-
  The reference's reader: what and, what or joins.
  The reference's reader: not, with an error, and ahead of a not.
  The reference's reader: not, ahead of a not.
  The reference's reader: not, ahead of an opening bracket.
  A node in its box, while the reference's reader reads on.
  Print's isTree.
-/
import Derived.Test.YtjekpclbedbaoaaKS07
import Derived.Test.YtjekpclbedbaoaaKS10
import Derived.Deep.MidRow
import Derived.Deep.QuietTactic
import Derived.BigQuiet
namespace Go.Proofs.Ytjekpclbedbaoaa
open Go.RowKit Go.Joins

theorem lf_bad_and {α β : Type} {E c : Int} {i j : Nat} {r : Rs α} {f : α → Nat → Rs β} (h : lf E i r = .bad j c) : lf E i (r.and f) = .bad j c := by
  unfold lf at h ⊢
  split
  · rename_i hE; rw [if_pos hE] at h; rw [h]; rfl
  · rename_i hE; rw [if_neg hE] at h; cases h; rfl
theorem lf_ok_and {α β : Type} {E : Int} {i j : Nat} {r : Rs α} {x : α} {f : α → Nat → Rs β} (h : lf E i r = .ok x j) : lf E i (r.and f) = f x j ∧ r = .ok x j := by
  unfold lf at h ⊢
  split
  · rename_i hE; rw [if_pos hE] at h; rw [h]; exact ⟨rfl, rfl⟩
  · rename_i hE; rw [if_neg hE] at h; cases h
/- Where a chain stands; T: what it comes to. -/
def InvC (ts : List Tp) (x : List UInt8) (kind : Int) (p : PN) (T : Rs (Nat × List Np)) (f : Nat) (z : Int) (j : Nat) (ns : List Np) (E : Int) : Prop :=
  (E = 0 ∧ ∃ a : Nat, z = a ∧ a < ns.length ∧ ts.length ≤ f + j ∧ T = chainL ts x kind p f a j ns) ∨ (¬ E = 0 ∧ T = .bad j E)
theorem inv_start {ts : List Tp} {x : List UInt8} {kind : Int} {p : PN} {E E1 z : Int} {i j : Nat} {ns ns1 : List Np} (hg : GoN ts p) (h : Cm2 (lf E i (p i ns)) z ns1 j E1) : InvC ts x kind p (lf E i (chainS ts x kind p i ns)) ts.length z j ns1 E1 := by
  rcases h with ⟨h, hE⟩ | ⟨a, rfl, h, hE⟩
  · exact .inr ⟨hE, lf_bad_and h⟩
  · obtain ⟨h1, h2⟩ := lf_ok_and (f := fun r j => chainL ts x kind p ts.length r.1 j r.2) h
    have g := hg _ _ _ _ h2
    exact .inl ⟨hE, a, rfl, g.2.2.2.1, by omega, h1⟩
theorem inv_more {ts : List Tp} {x : List UInt8} {kind : Int} {p : PN} {T : Rs (Nat × List Np)} {f j : Nat} {z : Int} {ns : List Np} (h : InvC ts x kind p T f z j ns 0) (hw : isW ts j x = true) : ∃ f' a : Nat, z = a ∧ (ts.length ≤ f' + 1 + j ∧ T = (p (j + 1) ns).and fun r j => chainL ts x kind p f' r.2.length j (r.2 ++ [{ n0 with kind := kind, l := [(a : Int), (r.1 : Int)] }])) := by
  rcases h with ⟨-, a, hz, -, hf, hT⟩ | ⟨h, -⟩
  · have hl := isW_lt hw
    obtain ⟨f', rfl⟩ : ∃ f', f = f' + 1 := ⟨f - 1, by omega⟩
    rw [chainL, if_pos hw] at hT
    exact ⟨f', a, hz, hf, hT⟩
  · exact absurd rfl h
theorem inv_end {ts : List Tp} {x : List UInt8} {kind : Int} {p : PN} {T : Rs (Nat × List Np)} {f j : Nat} {z E : Int} {ns : List Np} (h : InvC ts x kind p T f z j ns E) (hw : E = 0 → isW ts j x = false) : Cm2 T z ns j E := by
  rcases h with ⟨hE, a, hz, -, -, hT⟩ | ⟨hE, hT⟩
  · refine .inr ⟨a, hz, ?_, hE⟩
    rw [hT]
    cases f with
    | zero => rfl
    | succ f => rw [chainL, if_neg (by rw [hw hE]; decide)]
  · exact .inl ⟨hT, hE⟩
theorem part_len {ts : List Tp} {p : PN} {j j4 : Nat} {z4 E4 : Int} {qs' qs4 : List Nd} (hg : GoN ts p) (h : Cm2 (lf 0 (if true = true then j + 1 else j) (p (if true = true then j + 1 else j) (qs'.map (·.np)))) z4 (qs4.map (·.np)) j4 E4) (hE : E4 = 0) (hl : qs'.length ≤ j) : qs4.length + 1 ≤ j4 := by
  simp only [if_true] at h
  rcases h with ⟨h, hn⟩ | ⟨a, -, h, -⟩
  · exact absurd hE hn
  · unfold lf at h; rw [if_pos rfl] at h
    have g := hg _ _ _ _ h
    simp at g; omega
theorem inv_next {ts : List Tp} {x : List UInt8} {kind : Int} {p : PN} {T : Rs (Nat × List Np)} {f' a j j4 j5 : Nat} {z4 z5 E4 E5 : Int} {ns : List Np} {qs4 qs5 : List Nd} (hg : GoN ts p)
    (hT : ts.length ≤ f' + 1 + j ∧ T = (p (j + 1) ns).and fun r j => chainL ts x kind p f' r.2.length j (r.2 ++ [{ n0 with kind := kind, l := [(a : Int), (r.1 : Int)] }]))
    (h4 : Cm2 (lf 0 (j + 1) (p (j + 1) ns)) z4 (qs4.map (·.np)) j4 E4) (h5 : Cm2 (lf E4 j4 (.ok (qs4.length, qs4.map (·.np) ++ [{ n0 with kind := kind, l := [(a : Int), z4] }]) j4)) z5 (qs5.map (·.np)) j5 E5) (_hl : j < ts.length) : InvC ts x kind p T f' z5 j5 (qs5.map (·.np)) E5 ∧ (E5 = 0 → j + 2 ≤ j5) := by
  obtain ⟨hf, rfl⟩ := hT
  rcases h4 with ⟨h4, hn⟩ | ⟨b, rfl, h4, rfl⟩
  · have e5 : lf E4 j4 (.ok (qs4.length, qs4.map (·.np) ++ [{ n0 with kind := kind, l := [(a : Int), z4] }]) j4) = .bad j4 E4 := if_neg hn
    rw [e5] at h5
    rcases h5 with ⟨h5, hn5⟩ | ⟨_, _, h5, _⟩
    · cases h5
      unfold lf at h4; rw [if_pos rfl] at h4
      exact ⟨.inr ⟨hn, by rw [h4]; rfl⟩, fun e => absurd e hn⟩
    · cases h5
  · unfold lf at h4 h5; rw [if_pos rfl] at h4 h5
    have g := hg _ _ _ _ h4
    rcases h5 with ⟨h5, _⟩ | ⟨c, rfl, h5, rfl⟩
    · cases h5
    · simp only [Rs.ok.injEq, Prod.mk.injEq] at h5
      obtain ⟨⟨hc, hns⟩, rfl⟩ := h5
      refine ⟨.inl ⟨rfl, c, rfl, by rw [← hns, ← hc]; simp, by omega, ?_⟩, fun _ => by omega⟩
      rw [h4, ← hns, ← hc]; simp [Rs.and]
theorem cm2_ne {E E1 z : Int} {i j : Nat} {r : Rs (Nat × List Np)} {ns : List Np} (hE : ¬ E = 0) (h : Cm2 (lf E i r) z ns j E1) : ¬ E1 = 0 := by
  unfold lf at h; rw [if_neg hE] at h
  rcases h with ⟨_, h⟩ | ⟨_, _, h, _⟩
  · exact h
  · cases h
section
variable {B : Nat} {ts : List Tp} {w w' : World} {rb : Nat} {tv sv : Value} {E : Int} {o i : Nat} {qs : List Nd}
def errOf (rb : Nat) (w : World) : Int := match w.cell? ⟨rb, 3, none⟩ with
  | some (.int _ n) => n
  | _ => 0
def msr (rb : Nat) (ts : List Tp) (w : World) : Nat := if errOf rb w = 0 then ts.length + 2 - atOf rb w else 0
theorem Ry.msr (h : Ry B ts w rb tv sv E o i qs) : msr rb ts w = if E = 0 then ts.length + 2 - i else 0 := by
  have e : errOf rb w = E := by unfold errOf; rw [h.cell 3]; simp
  unfold Go.Proofs.Ytjekpclbedbaoaa.msr
  rw [e, h.atOf]
/- A method that lays nodes and keeps to p. -/
def PNy (f : Nat) (B : Nat) (ts : List Tp) (rb : Nat) (tv : Value) (o : Nat) (p : PN) : Prop := ∀ (w : World) (sv : Value) (E : Int) (i : Nat) (qs : List Nd), (17 ≤ o → ¬ E = 0) → Ry B ts w rb tv sv E o i qs → Calls Try.prog f #[dp rb] w (Y2 B ts rb tv sv o w (lf E i (p i (qs.map (·.np)))))
set_option maxRecDepth 100000 in
set_option maxHeartbeats 4000000 in
theorem rboth_any {p : PN} (hp : PNy 71 B ts rb tv o p) (hg : GoN ts p) (hO : 17 ≤ o → ¬ E = 0) (h : Ry B ts w rb tv sv E o i qs) : Calls Try.prog 54 #[dp rb] w (Y2 B ts rb tv sv o w (lf E i (chainS ts wAnd 11 p i (qs.map (·.np))))) := by
  have HP := hid hp
  have HG := hid hg
  have HC := hid (hp w sv E i qs hO h)
  have HO := hid hO
  have htl := h.tl
  clear hp hg h hO
  obtain ⟨T, hT⟩ : ∃ T, lf E i (chainS ts wAnd 11 p i (qs.map (·.np))) = T := ⟨_, rfl⟩
  rw [hT]
  have HT := hid hT
  clear hT
  have M1 : Hid True := trivial
  go_enter Try.func54, Try.ntmps54
  go_wp2_with (go_at_call 71; clear M1; refine HC.out.mono ?_; rintro e w1 ⟨hk, z1, E1, j1, sv1, qs1, rfl, hz1, hq, ha, hc⟩; have HK1 := hid hk; have HQ1 := hid hq; have HC1 := hid hc; have HA1 := hid ha; have hz1a := hz1.1; have hz1b := hz1.2; clear hk hq hc ha hz1)
  have HI1 : Hid (InvC ts wAnd 11 p T ts.length z1 j1 (qs1.map (·.np)) E1) := by show InvC _ _ _ _ _ _ _ _ _ _; rw [← HT.out]; exact inv_start HG.out HC1.out
  have HO1 : Hid (17 ≤ o → ¬ E1 = 0) := fun h17 => cm2_ne (HO.out h17) HC1.out
  clear HC1 HT HC HO
  go_loopw [3] (fun u wr => ∃ (f : Nat) (z : Int) (j : Nat) (Ej : Int) (sv' : Value) (qs' : List Nd), Hid (InvC ts wAnd 11 p T f z j (qs'.map (·.np)) Ej) ∧ Hid (17 ≤ o → ¬ Ej = 0) ∧ u = .int .i64 z ∧ -1 ≤ z ∧ z ≤ 1024 ∧ Hid (Ry B ts wr rb tv sv' Ej o j qs') ∧ Hid (Kp (Tq rb sv) w wr) ∧ Hid (At w sv sv')) (fun _ wr => msr rb ts wr)
  case atStart => exact ⟨ts.length, z1, j1, E1, sv1, qs1, HI1.out, HO1.out, rfl, hz1a, hz1b, HQ1.out, HK1.out, HA1.out⟩
  case round =>
    obtain ⟨f, z, j, Ej, sv', qs', HI, HOr, rfl, hza, hzb, HQr, HKr, HAr⟩ := hrel
    clear HI1 HQ1 HK1 HA1 hz1a hz1b HO1
    have HS := hid (rsees_any HQr.out wAnd)
    cases hw : isE Ej ts j wAnd with
    | true =>
      rw [hw] at HS
      have hE := isE_E hw
      subst hE
      have HO16 := hid (show o < 17 from Nat.lt_of_not_le fun h => HOr.out h rfl)
      clear HOr
      obtain ⟨f', a, rfl, HT2⟩ := inv_more HI.out (isE_W hw)
      have HT3 := hid HT2
      have HLt := hid (isE_lt hw)
      clear hw HI HT2
      go_wp2_with (first
        | (go_at_call 55; refine HS.out.mono ?_; rintro e w3 ⟨rfl, hq, hk⟩; have HQ3 := hid hq; have HK3 := hid (HKr.out.next HAr.out hk.r); clear hq hk)
        | (go_at_call 71; refine (HP.out _ _ _ _ _ (fun h17 => absurd HO16.out (by omega)) HQ3.out).mono ?_; rintro e w4 ⟨hk, z4, E4, j4, sv4, qs4, rfl, hz4, hq, ha, hc⟩; have HK4 := hid (HK3.out.next HAr.out hk); have HQ4 := hid hq; have HC4 := hid hc; have HA4 := hid (HAr.out.trans ha HK3.out.size); have hz4a := hz4.1; have hz4b := hz4.2; have HLl : Hid (E4 = 0 → qs4.length + 1 ≤ j4) := (fun e => part_len HG.out hc e HQr.out.ql); clear hk hq hc ha hz4)
        | (go_at_call 56; refine (rlay_any (q := nam2 w4 { n0 with kind := 11, l := [(a : Int), z4] }) (HQ4.out.on ((Below.refl _ _).alloc (Nat.le_refl _) _)) (nam2_in HQ4.out.B_le rfl rfl rfl) HLl.out).mono ?_; rintro e w5 ⟨hk, z5, E5, j5, sv5, qs5, rfl, hz5, hq, ha, hc⟩; have HQ5 := hid hq; have HC5 := hid hc; have HK5 := hid (HK4.out.next HA4.out ((Kp.alloc _ _ _).trans hk)); have HA5 := hid (HA4.out.trans ha (Nat.le_trans HK4.out.size (by simp))); have hz5a := hz5.1; have hz5b := hz5.2; clear hq ha hk hc hz5))
      have HI5 := inv_next HG.out HT3.out (by have := HC4.out; simp only [if_true] at this; exact this) HC5.out HLt.out
      go_roundw
      case rel => exact ⟨f', z5, j5, E5, sv5, qs5, HI5.1, fun h17 => absurd HO16.out (by omega), rfl, hz5a, hz5b, HQ5.out, HK5.out, HA5.out⟩
      case measure =>
        rw [HQ5.out.msr, HQr.out.msr, if_pos rfl]
        split
        · have := HI5.2 (by assumption); have := HQ5.out.il; omega
        · have := HLt.out; omega
    | false =>
      rw [hw] at HS
      have HM2 : Hid (Cm2 T z (qs'.map (·.np)) j Ej) := inv_end HI.out (fun e => isE_false hw e)
      clear hw HI
      go_wp2_with (go_at_call 55; refine HS.out.mono ?_; rintro e w3 ⟨rfl, hq, hk⟩; have HQ3 := hid hq; have HK3 := hid (HKr.out.next HAr.out hk.r); clear hq hk)
      go_ret
      exact ⟨HK3.out, z, Ej, j, sv', qs', rfl, ⟨hza, hzb⟩, HQ3.out, HAr.out, HM2.out⟩
set_option maxRecDepth 100000 in
set_option maxHeartbeats 4000000 in
theorem rcond_any {p : PN} (hp : PNy 54 B ts rb tv o p) (hg : GoN ts p) (hO : 17 ≤ o → ¬ E = 0) (h : Ry B ts w rb tv sv E o i qs) : Calls Try.prog 30 #[dp rb] w (Y2 B ts rb tv sv o w (lf E i (chainS ts wOr 12 p i (qs.map (·.np))))) := by
  have HP := hid hp
  have HG := hid hg
  have HC := hid (hp w sv E i qs hO h)
  have HO := hid hO
  have htl := h.tl
  clear hp hg h hO
  obtain ⟨T, hT⟩ : ∃ T, lf E i (chainS ts wOr 12 p i (qs.map (·.np))) = T := ⟨_, rfl⟩
  rw [hT]
  have HT := hid hT
  clear hT
  have M1 : Hid True := trivial
  go_enter Try.func30, Try.ntmps30
  go_wp2_with (go_at_call 54; clear M1; refine HC.out.mono ?_; rintro e w1 ⟨hk, z1, E1, j1, sv1, qs1, rfl, hz1, hq, ha, hc⟩; have HK1 := hid hk; have HQ1 := hid hq; have HC1 := hid hc; have HA1 := hid ha; have hz1a := hz1.1; have hz1b := hz1.2; clear hk hq hc ha hz1)
  have HI1 : Hid (InvC ts wOr 12 p T ts.length z1 j1 (qs1.map (·.np)) E1) := by show InvC _ _ _ _ _ _ _ _ _ _; rw [← HT.out]; exact inv_start HG.out HC1.out
  have HO1 : Hid (17 ≤ o → ¬ E1 = 0) := fun h17 => cm2_ne (HO.out h17) HC1.out
  clear HC1 HT HC HO
  go_loopw [3] (fun u wr => ∃ (f : Nat) (z : Int) (j : Nat) (Ej : Int) (sv' : Value) (qs' : List Nd), Hid (InvC ts wOr 12 p T f z j (qs'.map (·.np)) Ej) ∧ Hid (17 ≤ o → ¬ Ej = 0) ∧ u = .int .i64 z ∧ -1 ≤ z ∧ z ≤ 1024 ∧ Hid (Ry B ts wr rb tv sv' Ej o j qs') ∧ Hid (Kp (Tq rb sv) w wr) ∧ Hid (At w sv sv')) (fun _ wr => msr rb ts wr)
  case atStart => exact ⟨ts.length, z1, j1, E1, sv1, qs1, HI1.out, HO1.out, rfl, hz1a, hz1b, HQ1.out, HK1.out, HA1.out⟩
  case round =>
    obtain ⟨f, z, j, Ej, sv', qs', HI, HOr, rfl, hza, hzb, HQr, HKr, HAr⟩ := hrel
    clear HI1 HQ1 HK1 HA1 hz1a hz1b HO1
    have HS := hid (rsees_any HQr.out wOr)
    cases hw : isE Ej ts j wOr with
    | true =>
      rw [hw] at HS
      have hE := isE_E hw
      subst hE
      have HO16 := hid (show o < 17 from Nat.lt_of_not_le fun h => HOr.out h rfl)
      clear HOr
      obtain ⟨f', a, rfl, HT2⟩ := inv_more HI.out (isE_W hw)
      have HT3 := hid HT2
      have HLt := hid (isE_lt hw)
      clear hw HI HT2
      go_wp2_with (first
        | (go_at_call 55; refine HS.out.mono ?_; rintro e w3 ⟨rfl, hq, hk⟩; have HQ3 := hid hq; have HK3 := hid (HKr.out.next HAr.out hk.r); clear hq hk)
        | (go_at_call 54; refine (HP.out _ _ _ _ _ (fun h17 => absurd HO16.out (by omega)) HQ3.out).mono ?_; rintro e w4 ⟨hk, z4, E4, j4, sv4, qs4, rfl, hz4, hq, ha, hc⟩; have HK4 := hid (HK3.out.next HAr.out hk); have HQ4 := hid hq; have HC4 := hid hc; have HA4 := hid (HAr.out.trans ha HK3.out.size); have hz4a := hz4.1; have hz4b := hz4.2; have HLl : Hid (E4 = 0 → qs4.length + 1 ≤ j4) := (fun e => part_len HG.out hc e HQr.out.ql); clear hk hq hc ha hz4)
        | (go_at_call 56; refine (rlay_any (q := nam2 w4 { n0 with kind := 12, l := [(a : Int), z4] }) (HQ4.out.on ((Below.refl _ _).alloc (Nat.le_refl _) _)) (nam2_in HQ4.out.B_le rfl rfl rfl) HLl.out).mono ?_; rintro e w5 ⟨hk, z5, E5, j5, sv5, qs5, rfl, hz5, hq, ha, hc⟩; have HQ5 := hid hq; have HC5 := hid hc; have HK5 := hid (HK4.out.next HA4.out ((Kp.alloc _ _ _).trans hk)); have HA5 := hid (HA4.out.trans ha (Nat.le_trans HK4.out.size (by simp))); have hz5a := hz5.1; have hz5b := hz5.2; clear hq ha hk hc hz5))
      have HI5 := inv_next HG.out HT3.out (by have := HC4.out; simp only [if_true] at this; exact this) HC5.out HLt.out
      go_roundw
      case rel => exact ⟨f', z5, j5, E5, sv5, qs5, HI5.1, fun h17 => absurd HO16.out (by omega), rfl, hz5a, hz5b, HQ5.out, HK5.out, HA5.out⟩
      case measure =>
        rw [HQ5.out.msr, HQr.out.msr, if_pos rfl]
        split
        · have := HI5.2 (by assumption); have := HQ5.out.il; omega
        · have := HLt.out; omega
    | false =>
      rw [hw] at HS
      have HM2 : Hid (Cm2 T z (qs'.map (·.np)) j Ej) := inv_end HI.out (fun e => isE_false hw e)
      clear hw HI
      go_wp2_with (go_at_call 55; refine HS.out.mono ?_; rintro e w3 ⟨rfl, hq, hk⟩; have HQ3 := hid hq; have HK3 := hid (HKr.out.next HAr.out hk.r); clear hq hk)
      go_ret
      exact ⟨HK3.out, z, Ej, j, sv', qs', rfl, ⟨hza, hzb⟩, HQ3.out, HAr.out, HM2.out⟩
end
end Go.Proofs.Ytjekpclbedbaoaa
namespace Go.Proofs.Ytjekpclbedbaoaa
open Go.RowKit Go.Joins

section
variable {B : Nat} {ts : List Tp} {w w' : World} {rb : Nat} {tv sv : Value} {E : Int} {o i : Nat} {qs : List Nd}
set_option maxRecDepth 100000 in
set_option maxHeartbeats 1000000 in
theorem rnot_err (h : Ry B ts w rb tv sv E o i qs) (hE : ¬ E = 0) : Calls Try.prog 71 #[dp rb] w fun e w' => e = .returned (.int .i64 0) ∧ w' = w := by
  have k0 := h.cell
  have bE : (E != 0) = true := by simp [hE]
  clear h hE
  go_enter Try.func71, Try.ntmps71
  go_wp2_with fail
  go_ret
  exact ⟨rfl, rfl⟩
/- What may stand within, of the reference's. -/
def DeepY (F : Nat) (B : Nat) (ts : List Tp) (rb : Nat) (tv : Value) (o : Nat) : Option PN → Prop
  | none => o = 16
  | some p => o < 16 ∧ PNy F B ts rb tv (o + 1) p ∧ GoN ts p
theorem not_fin {ts : List Tp} {p : PN} {i j j5 : Nat} {z z5 E E5 : Int} {ns : List Np} {qs1 qs5 : List Nd} (hw : isW ts i wNot = true) (h : Cm2 (lf 0 (i + 1) (p (i + 1) ns)) z (qs1.map (·.np)) j E) (h5 : Cm2 (lf E j (.ok (qs1.length, qs1.map (·.np) ++ [{ n0 with kind := 13, l := [z] }]) j)) z5 (qs5.map (·.np)) j5 E5) : Cm2 (lf 0 i (notB ts (some p) i ns)) z5 (qs5.map (·.np)) j5 E5 := by
  have e0 : lf 0 i (notB ts (some p) i ns) = (p (i + 1) ns).and fun r j => .ok (r.2.length, r.2 ++ [{ n0 with kind := 13, l := [(r.1 : Int)] }]) j := by
    unfold lf notB; rw [if_pos rfl, if_pos hw]
  rw [e0]
  rcases h with ⟨h, hn⟩ | ⟨b, rfl, h, rfl⟩
  · unfold lf at h h5; rw [if_pos rfl] at h; rw [if_neg hn] at h5
    rw [h]; exact h5
  · unfold lf at h h5; rw [if_pos rfl] at h h5
    rw [h]; simpa [Rs.and] using h5
end
end Go.Proofs.Ytjekpclbedbaoaa
namespace Go.Proofs.Ytjekpclbedbaoaa
open Go.RowKit Go.Joins

section
variable {B : Nat} {ts : List Tp} {w w' : World} {rb : Nat} {tv sv : Value} {E : Int} {o i : Nat} {qs : List Nd}
theorem rdeeper_long (h : Ry B ts w rb tv sv 0 o (i + 1) qs) (hl : qs.length + 1 ≤ i + 1) (ho : o = 16) : Calls Try.prog 92 #[dp rb] w fun e w' => e = .returned (.tuple #[]) ∧ Kp (fun k => k = rb) w w' ∧ Ry B ts w' rb tv sv 2 (o + 1) i qs := by
  refine (rdeeper_any h hl (by omega)).mono ?_
  rintro e w2 ⟨rfl, hk, ⟨he, hq⟩ | ⟨-, ho2, hq⟩ | ⟨-, ho2, hq⟩⟩
  · exact absurd rfl he
  · exact ⟨rfl, hk, hq⟩
  · omega
theorem rdeeper_ok (h : Ry B ts w rb tv sv 0 o (i + 1) qs) (hl : qs.length + 1 ≤ i + 1) (ho : o < 16) : Calls Try.prog 92 #[dp rb] w fun e w' => e = .returned (.tuple #[]) ∧ Kp (fun k => k = rb) w w' ∧ Ry B ts w' rb tv sv 0 (o + 1) (i + 1) qs := by
  refine (rdeeper_any h hl (by omega)).mono ?_
  rintro e w2 ⟨rfl, hk, ⟨he, hq⟩ | ⟨-, ho2, hq⟩ | ⟨-, ho2, hq⟩⟩
  · exact absurd rfl he
  · omega
  · exact ⟨rfl, hk, hq⟩
theorem part_len' {p : PN} {j j4 : Nat} {z4 E4 : Int} {qs' qs4 : List Nd} (hg : GoN ts p) (h : Cm2 (lf 0 (j + 1) (p (j + 1) (qs'.map (·.np)))) z4 (qs4.map (·.np)) j4 E4) (hE : E4 = 0) (hl : qs'.length ≤ j) : qs4.length + 1 ≤ j4 := part_len hg (by simpa using h) hE hl
set_option maxRecDepth 100000 in
set_option maxHeartbeats 400000 in
theorem rnot_not0 (ho : o = 16) (h : Ry B ts w rb tv sv 0 o i qs) (hw : isW ts i wNot = true) : Calls Try.prog 71 #[dp rb] w (Y2 B ts rb tv sv o w (lf 0 i (notB ts none i (qs.map (·.np))))) := by
  have k0 := h.cell
  have HQL := hid h.ql
  have HW := hid hw
  have hs := rsees_any h wNot
  have e1 : isE 0 ts i wNot = true := by unfold isE; rw [hw]; rfl
  rw [e1] at hs
  have HS := hid hs
  have hk0 : ((o : Int) + 1) - 1 = o := by omega
  have o0 : (0 : Int) ≤ o := by omega
  have o1 : (o : Int) ≤ 17 := by have := h.ol; omega
  have HO16 := hid ho
  generalize hT : lf 0 i (notB ts none i (qs.map (·.np))) = T at *
  have HTt := hid hT
  clear h hw hs e1 hT ho
  go_enter Try.func71, Try.ntmps71
  go_upto_region 7 with (first
    | (go_at_call 55; refine HS.out.mono ?_; rintro e w1 ⟨rfl, hq, hk⟩; simp only [if_true] at hq; have HQ1 := hid hq; have HK1 := hid hk; clear hq hk)
    | (go_at_call 92; refine (rdeeper_long HQ1.out (by have := HQL.out; omega) HO16.out).mono ?_; rintro e w2 ⟨rfl, hk, hq⟩; have HQ2 := hid hq; have HK2 := hid (HK1.out.trans hk); have k2 := hq.cell; have z2 := hq.frozen; simp only [Int.natCast_add, Int.cast_ofNat_Int] at k2; clear hq hk)
    | (go_at_call 71; refine (rnot_err HQ2.out (by decide)).mono ?_; rintro e w3 ⟨rfl, he⟩; replace he := he.symm; subst he))
  have HQ6 := hid (Ry.less HQ2.out)
  have HK6 := hid (HK2.out.trans (Kp.set (T := fun k => k = rb) (w := w2) (b := rb) (i := 4) rfl (.int .i64 (o : Int))))
  clear k2 z2 k0
  generalize w2.setCell ⟨rb, 4, none⟩ (.int .i64 (o : Int)) = W6 at *
  go_wp2_with (go_at_call 56; refine (rlay_any (q := nam1 W6 { n0 with kind := 13, l := [0] }) (HQ6.out.on ((Below.refl _ _).alloc (Nat.le_refl _) _)) (nam1_in HQ6.out.B_le rfl rfl rfl) (fun e => absurd e (by decide))).mono ?_; rintro e w5 ⟨hk, z5, E5, j5, sv5, qs5, rfl, hz5, hq, ha, hc⟩; have HQ5 := hid hq; have HC5 := hid hc; have HK5 := hid (HK6.out.r.trans ((Kp.alloc (Tq rb sv) W6 (.cells #[.int .i64 0] 3)).trans hk)); have HA5 := hid ((At.refl w sv).trans ha (Nat.le_trans HK6.out.size (by simp))); have HZ5 := hid hz5; clear hq ha hk hc hz5)
  go_ret
  refine ⟨HK5.out, z5, E5, j5, sv5, qs5, rfl, HZ5.out, HQ5.out, HA5.out, ?_⟩
  have e0 : lf 0 i (notB ts none i (qs.map (·.np))) = .bad i 2 := by unfold lf notB; rw [if_pos rfl, if_pos HW.out]
  rw [← HTt.out, e0]
  have h5 := HC5.out
  unfold lf at h5; rw [if_neg (by decide)] at h5
  exact h5
set_option maxRecDepth 100000 in
set_option maxHeartbeats 400000 in
theorem rnot_not1 {p : PN} (ho : o < 16) (hp : PNy 71 B ts rb tv (o + 1) p) (hg : GoN ts p) (h : Ry B ts w rb tv sv 0 o i qs) (hw : isW ts i wNot = true) : Calls Try.prog 71 #[dp rb] w (Y2 B ts rb tv sv o w (lf 0 i (notB ts (some p) i (qs.map (·.np))))) := by
  have k0 := h.cell
  have HQL := hid h.ql
  have HW := hid hw
  have HP := hid hp
  have HG := hid hg
  have hs := rsees_any h wNot
  have e1 : isE 0 ts i wNot = true := by unfold isE; rw [hw]; rfl
  rw [e1] at hs
  have HS := hid hs
  have hk0 : ((o : Int) + 1) - 1 = o := by omega
  have o0 : (0 : Int) ≤ o := by omega
  have o1 : (o : Int) ≤ 17 := by have := h.ol; omega
  have HO16 := hid ho
  generalize hT : lf 0 i (notB ts (some p) i (qs.map (·.np))) = T at *
  have HTt := hid hT
  clear h hw hs e1 hT ho hp hg
  go_enter Try.func71, Try.ntmps71
  go_upto_region 7 with (first
    | (go_at_call 55; refine HS.out.mono ?_; rintro e w1 ⟨rfl, hq, hk⟩; simp only [if_true] at hq; have HQ1 := hid hq; have HK1 := hid hk; clear hq hk)
    | (go_at_call 92; refine (rdeeper_ok HQ1.out (by have := HQL.out; omega) HO16.out).mono ?_; rintro e w2 ⟨rfl, hk, hq⟩; have HQ2 := hid hq; have HK2 := hid (HK1.out.trans hk); clear hq hk)
    | (go_at_call 71; refine (HP.out _ _ _ _ _ (fun h17 => absurd HO16.out (by omega)) HQ2.out).mono ?_; rintro e w3 ⟨hk, z3, E3, j3, sv3, qs3, rfl, hz3, hq, ha, hc⟩; have HK3 := hid (HK2.out.r.next (At.refl w sv) hk); have HQ3 := hid hq; have HC3 := hid hc; have HA3 := hid ((At.refl w sv).trans ha HK2.out.size); have hz3a := hz3.1; have hz3b := hz3.2; have HLl : Hid (E3 = 0 → qs3.length + 1 ≤ j3) := (fun e => part_len' HG.out hc e HQL.out); have k2 := hq.cell; have z2 := hq.frozen; simp only [Int.natCast_add, Int.cast_ofNat_Int] at k2; clear hk hq hc ha hz3))
  have HQ6 := hid (Ry.less HQ3.out)
  have HK6 := hid (HK3.out.next HA3.out (Kp.set (T := fun k => k = rb) (w := w3) (b := rb) (i := 4) rfl (.int .i64 (o : Int))).r)
  clear k2 z2 k0
  generalize w3.setCell ⟨rb, 4, none⟩ (.int .i64 (o : Int)) = W6 at *
  go_wp2_with (go_at_call 56; refine (rlay_any (q := nam1 W6 { n0 with kind := 13, l := [z3] }) (HQ6.out.on ((Below.refl _ _).alloc (Nat.le_refl _) _)) (nam1_in HQ6.out.B_le rfl rfl rfl) HLl.out).mono ?_; rintro e w5 ⟨hk, z5, E5, j5, sv5, qs5, rfl, hz5, hq, ha, hc⟩; have HQ5 := hid hq; have HC5 := hid hc; have HK5 := hid (HK6.out.next HA3.out ((Kp.alloc (Tq rb sv3) W6 (.cells #[.int .i64 z3] 3)).trans hk)); have HA5 := hid (HA3.out.trans ha (Nat.le_trans HK6.out.size (by simp))); have HZ5 := hid hz5; clear hq ha hk hc hz5)
  go_ret
  refine ⟨HK5.out, z5, E5, j5, sv5, qs5, rfl, HZ5.out, HQ5.out, HA5.out, ?_⟩
  rw [← HTt.out]
  exact not_fin HW.out HC3.out HC5.out
theorem rnot_not {d : Option PN} (hd : DeepY 71 B ts rb tv o d) (h : Ry B ts w rb tv sv 0 o i qs) (hw : isW ts i wNot = true) : Calls Try.prog 71 #[dp rb] w (Y2 B ts rb tv sv o w (lf 0 i (notB ts d i (qs.map (·.np))))) := by
  cases d with
  | none => exact rnot_not0 hd h hw
  | some p => exact rnot_not1 hd.1 hd.2.1 hd.2.2 h hw
end
end Go.Proofs.Ytjekpclbedbaoaa
namespace Go.Proofs.Ytjekpclbedbaoaa
open Go.RowKit Go.Joins

section
variable {B : Nat} {ts : List Tp} {w w' : World} {rb : Nat} {tv sv : Value} {E : Int} {o i : Nat} {qs : List Nd}
theorem rsees_no (h : Ry B ts w rb tv sv E o i qs) {x : List UInt8} (hx : isE E ts i x = false) : Calls Try.prog 55 #[dp rb, .string (St x)] w fun e w' => e = .returned (.bool false) ∧ Ry B ts w' rb tv sv E o i qs ∧ Kp (fun k => k = rb) w w' := by
  have := rsees_any h x
  rw [hx] at this
  exact this
theorem rsees_yes (h : Ry B ts w rb tv sv E o i qs) {x : List UInt8} (hx : isE E ts i x = true) : Calls Try.prog 55 #[dp rb, .string (St x)] w fun e w' => e = .returned (.bool true) ∧ Ry B ts w' rb tv sv E o (i + 1) qs ∧ Kp (fun k => k = rb) w w' := by
  have := rsees_any h x
  rw [hx] at this
  exact this
theorem isE0 {x : List UInt8} : isE 0 ts i x = isW ts i x := rfl
/- Deeper than may be, nothing is read. -/
theorem rnot17 (p : PN) : PNy 71 B ts rb tv 17 p := fun w sv E i qs hO h => by
  have hE := hO (Nat.le_refl _)
  refine (rnot_err h hE).mono ?_
  rintro e w' ⟨rfl, rfl⟩
  exact ⟨Kp.refl _ _, 0, E, i, sv, qs, rfl, by omega, h, At.refl _ _, .inl ⟨if_neg hE, hE⟩⟩
theorem rcondB_any {p : PN} (hp : PNy 71 B ts rb tv o p) (hg : GoN ts p) : PNy 30 B ts rb tv o (condB ts p) := fun _ _ _ _ _ hO h =>
  rcond_any (p := bothB ts p) (fun _ _ _ _ _ hO h => rboth_any hp hg hO h) (both_go hg) hO h
theorem gon_bad : GoN ts (fun i _ => .bad i 2) := fun i ns r j h => by cases h
theorem rcond17 (h : Ry B ts w rb tv sv 2 (o + 1) i qs) (ho : o = 16) : Calls Try.prog 30 #[dp rb] w fun e w' => Kp (Tq rb sv) w w' ∧ ∃ (z : Int) (sv' : Value) (qs' : List Nd), e = .returned (.int .i64 z) ∧ (-1 ≤ z ∧ z ≤ 1024) ∧ Ry B ts w' rb tv sv' 2 (o + 1) i qs' ∧ At w sv sv' := by
  subst ho
  refine (rcondB_any (rnot17 (fun i _ => .bad i 2)) gon_bad w sv 2 i qs (fun _ => by decide) h).mono ?_
  rintro e w' ⟨hk, z, E, j, sv', qs', he, hz, hr, ha, hc⟩
  rcases hc with ⟨hb, hE⟩ | ⟨a, -, hb, -⟩
  · unfold lf at hb; rw [if_neg (by decide)] at hb; cases hb
    exact ⟨hk, z, sv', qs', he, hz, hr, ha⟩
  · unfold lf at hb; rw [if_neg (by decide)] at hb; cases hb
theorem open_fin {p : PN} {j j5 : Nat} {z E E5 : Int} {ns ns1 : List Np} (hn : isW ts i wNot = false) (hw : isW ts i wOpen = true) (h : Cm2 (lf 0 (i + 1) (condB ts p (i + 1) ns)) z ns1 j E) (h5 : Cm (lf E j (wantS ts wShut j)) () j5 E5) : Cm2 (lf 0 i (notB ts (some p) i ns)) z ns1 j5 E5 := by
  have e0 : lf 0 i (notB ts (some p) i ns) = (condB ts p (i + 1) ns).and fun r j => (wantS ts wShut j).and fun _ j => .ok r j := by
    unfold lf notB; rw [if_pos rfl, hn, if_neg (by decide), if_pos hw]
    unfold inBr; rw [if_pos hw]; rfl
  rw [e0]
  rcases h with ⟨h, hE⟩ | ⟨a, rfl, h, rfl⟩
  · unfold lf at h h5; rw [if_pos rfl] at h; rw [if_neg hE] at h5
    rw [h]
    rcases h5 with ⟨h5, hE5⟩ | ⟨h5, hE5⟩
    · cases h5; exact .inl ⟨rfl, hE⟩
    · cases h5
  · unfold lf at h h5; rw [if_pos rfl] at h h5
    rw [h]
    rcases h5 with ⟨h5, hE5⟩ | ⟨h5, rfl⟩
    · refine .inl ⟨?_, hE5⟩
      show (wantS ts wShut j).and _ = _
      rw [h5]; rfl
    · refine .inr ⟨a, rfl, ?_, rfl⟩
      show (wantS ts wShut j).and _ = _
      rw [h5]; rfl
set_option maxRecDepth 100000 in
set_option maxHeartbeats 400000 in
theorem rnot_open0 (ho : o = 16) (h : Ry B ts w rb tv sv 0 o i qs) (hn : isW ts i wNot = false) (hw : isW ts i wOpen = true) : Calls Try.prog 71 #[dp rb] w (Y2 B ts rb tv sv o w (lf 0 i (notB ts none i (qs.map (·.np))))) := by
  have k0 := h.cell
  have HQL := hid h.ql
  have HN := hid hn
  have HW := hid hw
  have HS := hid (rsees_no h (x := wNot) hn)
  have hk0 : ((o : Int) + 1) - 1 = o := by omega
  have o0 : (0 : Int) ≤ o := by omega
  have o1 : (o : Int) ≤ 17 := by have := h.ol; omega
  have HO16 := hid ho
  have M1 : Hid True := trivial
  generalize hT : lf 0 i (notB ts none i (qs.map (·.np))) = T at *
  have HTt := hid hT
  clear h hw hn hT ho
  go_enter Try.func71, Try.ntmps71
  go_upto_region 13 with (first
    | (go_at_call 55; have FIRST := M1; refine HS.out.mono ?_; rintro e w1 ⟨rfl, hq, hk⟩; have HQ1 := hid hq; have HK1 := hid hk; clear hq hk M1 FIRST)
    | (go_at_call 55; refine (rsees_yes HQ1.out (x := wOpen) HW.out).mono ?_; rintro e w1b ⟨rfl, hq, hk⟩; have HQ1b := hid hq; have HK1b := hid (HK1.out.trans hk); clear hq hk)
    | (go_at_call 92; refine (rdeeper_long HQ1b.out (by have := HQL.out; omega) HO16.out).mono ?_; rintro e w2 ⟨rfl, hk, hq⟩; have HQ2 := hid hq; have HK2 := hid (HK1b.out.trans hk); clear hq hk)
    | (go_at_call 30; refine (rcond17 HQ2.out HO16.out).mono ?_; rintro e w3 ⟨hk, z3, sv3, qs3, rfl, hz3, hq, ha⟩; have HK3 := hid (HK2.out.r.next (At.refl w sv) hk); have HQ3 := hid hq; have HA3 := hid ((At.refl w sv).trans ha HK2.out.size); have HZ3 := hid hz3; clear hk hq ha hz3)
    | (go_at_call 93; refine (rwants_any HQ3.out wShut).mono ?_; rintro e w4 ⟨hk, x4, v4, E4, j4, rfl, hv4, hq, hc⟩; obtain rfl := hv4; have HK4 := hid (HK3.out.next HA3.out hk.r); have HQ4 := hid hq; have HC4 := hid hc; have k2 := hq.cell; have z2 := hq.frozen; simp only [Int.natCast_add, Int.cast_ofNat_Int] at k2; clear hk hq hc))
  have HQ6 := hid (Ry.less HQ4.out)
  have HK6 := hid (HK4.out.next HA3.out (Kp.set (T := fun k => k = rb) (w := w4) (b := rb) (i := 4) rfl (.int .i64 (o : Int))).r)
  clear k2 z2 k0
  generalize w4.setCell ⟨rb, 4, none⟩ (.int .i64 (o : Int)) = W6 at *
  go_wp2_with fail
  go_ret
  refine ⟨HK6.out, z3, E4, j4, sv3, qs3, rfl, HZ3.out, HQ6.out, HA3.out, ?_⟩
  have e0 : lf 0 i (notB ts none i (qs.map (·.np))) = .bad i 2 := by unfold lf notB; rw [if_pos rfl, HN.out, if_neg (by decide), if_pos HW.out]; unfold inBr; rw [if_pos HW.out]; rfl
  rw [← HTt.out, e0]
  have h5 := HC4.out
  unfold lf at h5; rw [if_neg (by decide)] at h5
  rcases h5 with ⟨h5, hE5⟩ | ⟨h5, hE5⟩
  · cases h5; exact .inl ⟨rfl, hE5⟩
  · cases h5
set_option maxRecDepth 100000 in
set_option maxHeartbeats 400000 in
theorem rnot_open1 {p : PN} (ho : o < 16) (hp : PNy 71 B ts rb tv (o + 1) p) (hg : GoN ts p) (h : Ry B ts w rb tv sv 0 o i qs) (hn : isW ts i wNot = false) (hw : isW ts i wOpen = true) : Calls Try.prog 71 #[dp rb] w (Y2 B ts rb tv sv o w (lf 0 i (notB ts (some p) i (qs.map (·.np))))) := by
  have k0 := h.cell
  have HQL := hid h.ql
  have HN := hid hn
  have HW := hid hw
  have HP := hid (rcondB_any hp hg)
  have HS := hid (rsees_no h (x := wNot) hn)
  have hk0 : ((o : Int) + 1) - 1 = o := by omega
  have o0 : (0 : Int) ≤ o := by omega
  have o1 : (o : Int) ≤ 17 := by have := h.ol; omega
  have HO16 := hid ho
  have M1 : Hid True := trivial
  generalize hT : lf 0 i (notB ts (some p) i (qs.map (·.np))) = T at *
  have HTt := hid hT
  clear h hw hn hT ho hp hg
  go_enter Try.func71, Try.ntmps71
  go_upto_region 13 with (first
    | (go_at_call 55; have FIRST := M1; refine HS.out.mono ?_; rintro e w1 ⟨rfl, hq, hk⟩; have HQ1 := hid hq; have HK1 := hid hk; clear hq hk M1 FIRST)
    | (go_at_call 55; refine (rsees_yes HQ1.out (x := wOpen) HW.out).mono ?_; rintro e w1b ⟨rfl, hq, hk⟩; have HQ1b := hid hq; have HK1b := hid (HK1.out.trans hk); clear hq hk)
    | (go_at_call 92; refine (rdeeper_ok HQ1b.out (by have := HQL.out; omega) HO16.out).mono ?_; rintro e w2 ⟨rfl, hk, hq⟩; have HQ2 := hid hq; have HK2 := hid (HK1b.out.trans hk); clear hq hk)
    | (go_at_call 30; refine (HP.out _ _ _ _ _ (fun h17 => absurd HO16.out (by omega)) HQ2.out).mono ?_; rintro e w3 ⟨hk, z3, E3, j3, sv3, qs3, rfl, hz3, hq, ha, hc⟩; have HK3 := hid (HK2.out.r.next (At.refl w sv) hk); have HQ3 := hid hq; have HC3 := hid hc; have HA3 := hid ((At.refl w sv).trans ha HK2.out.size); have HZ3 := hid hz3; clear hk hq hc ha hz3)
    | (go_at_call 93; refine (rwants_any HQ3.out wShut).mono ?_; rintro e w4 ⟨hk, x4, v4, E4, j4, rfl, hv4, hq, hc⟩; obtain rfl := hv4; have HK4 := hid (HK3.out.next HA3.out hk.r); have HQ4 := hid hq; have HC4 := hid hc; have k2 := hq.cell; have z2 := hq.frozen; simp only [Int.natCast_add, Int.cast_ofNat_Int] at k2; clear hk hq hc))
  have HQ6 := hid (Ry.less HQ4.out)
  have HK6 := hid (HK4.out.next HA3.out (Kp.set (T := fun k => k = rb) (w := w4) (b := rb) (i := 4) rfl (.int .i64 (o : Int))).r)
  clear k2 z2 k0
  generalize w4.setCell ⟨rb, 4, none⟩ (.int .i64 (o : Int)) = W6 at *
  go_wp2_with fail
  go_ret
  refine ⟨HK6.out, z3, E4, j4, sv3, qs3, rfl, HZ3.out, HQ6.out, HA3.out, ?_⟩
  rw [← HTt.out]
  exact open_fin HN.out HW.out HC3.out HC4.out
theorem rnot_open {d : Option PN} (hd : DeepY 71 B ts rb tv o d) (h : Ry B ts w rb tv sv 0 o i qs) (hn : isW ts i wNot = false) (hw : isW ts i wOpen = true) : Calls Try.prog 71 #[dp rb] w (Y2 B ts rb tv sv o w (lf 0 i (notB ts d i (qs.map (·.np))))) := by
  cases d with
  | none => exact rnot_open0 hd h hn hw
  | some p => exact rnot_open1 hd.1 hd.2.1 hd.2.2 h hn hw
end
end Go.Proofs.Ytjekpclbedbaoaa
namespace Go.Proofs.Ytjekpclbedbaoaa
open Go.RowKit Go.Joins

def setL : Array Value → Nat → List Value → Array Value
  | xs, _, [] => xs
  | xs, o, v :: r => setL (xs.setIfInBounds o v) (o + 1) r
theorem setCells_blk {b : Nat} {t : TypeId} {fz : Nat × Nat} : ∀ (vs : List Value) (o : Nat) (w : World) (xs : Array Value), w.heap[b]? = some (.cells xs t fz) → (w.setCells b o vs).heap[b]? = some (.cells (setL xs o vs) t fz)
  | [], _, _, _, h => h
  | v :: r, o, w, xs, h => by rw [World.setCells]; exact setCells_blk r (o + 1) _ _ (block_set h o v)
theorem setCells_kp {b : Nat} : ∀ (vs : List Value) (o : Nat) (w : World), Kp (fun k => k = b) w (w.setCells b o vs)
  | [], _, w => Kp.refl _ _
  | v :: r, o, w => by rw [World.setCells]; exact (Kp.set (T := fun k => k = b) rfl v).trans (setCells_kp r (o + 1) _)
theorem load_node {ops : Array Oper} {rest : List Oper} {op : Oper} {a : Act} {w : World} {Q : Exit → Act → World → Prop} (hgd : op.guard = none) (x : Operand) (ho : op.op = .load 44 x) {nb : Nat} {q : Nd} (hx : a.eval x = dp nb) (hS : S6 nb q.cells.toArray w)
    (h : wpList Try.prog ops Q rest (a.put op.dst (.agg q.cells.toArray)) w) : wpList Try.prog ops Q (op :: rest) a w :=
  wpList_load_mid hgd 44 x ho nb 0 hx q.cells _ (s6_range hS) Try.underlying44 rfl size_node h
theorem s6_there {nb : Nat} {q : Nd} {w : World} (hS : S6 nb q.cells.toArray w) : w.there nb 5 11 := fun j hj => by
  refine ⟨?_, block_frozen hS _⟩
  rw [block_cell hS, Array.getElem?_eq_getElem (by show 5 + j < 19; omega)]
  rfl
theorem set_nv (q : Nd) (c : Int × Int × List UInt8) : setL q.cells.toArray 5 (VlV c).toList = ({ q with np := { q.np with vk := c.1, vn := c.2.1, vs := c.2.2 } } : Nd).cells.toArray := by
  kernel_rfl
theorem store_nv {ops : Array Oper} {rest : List Oper} {op : Oper} {a : Act} {w : World} {Q : Exit → Act → World → Prop} (hgd : op.guard = none) (x y : Operand) (ho : op.op = .store 40 x y) {nb : Nat} {q : Nd} {c : Int × Int × List UInt8} (hx : a.eval x = .pointer (some ⟨nb, 5, none⟩)) (hy : a.eval y = .agg (VlV c)) (hS : S6 nb q.cells.toArray w)
    (h : ∀ w', S6 nb ({ q with np := { q.np with vk := c.1, vn := c.2.1, vs := c.2.2 } } : Nd).cells.toArray w' → Kp (fun k => k = nb) w w' → wpList Try.prog ops Q rest (a.put op.dst undef) w') : wpList Try.prog ops Q (op :: rest) a w :=
  wpList_store_mid hgd 40 x y ho nb 5 (VlV c) hx hy (s6_there hS) size_val (one_val c) (h _ (by have := setCells_blk (VlV c).toList 5 w _ hS; rw [set_nv] at this; exact this) (setCells_kp _ _ _))
section
variable {B : Nat} {ts : List Tp} {w w' wr : World} {rb : Nat} {tv sv0 sv sv' : Value} {E E' : Int} {o o' i j j' : Nat} {qs qs' : List Nd} {nb : Nat} {q q' : Nd}
structure Bn (B : Nat) (ts : List Tp) (w : World) (rb : Nat) (tv sv0 sv : Value) (E : Int) (o j : Nat) (qs : List Nd) (nb : Nat) (q : Nd) (wr : World) : Prop where
  r : Ry B ts wr rb tv sv E o j qs
  b : S6 nb q.cells.toArray wr
  k : Kp (Tq rb sv0) w wr
  a : At w sv0 sv
  n : w.heap.size ≤ nb
  l : rb < w.heap.size
  s : ∀ g, sv.ownBlock = some g → g ≠ nb
theorem Bn.ne (h : Bn B ts w rb tv sv0 sv E o j qs nb q wr) : nb ≠ rb := by have := h.n; have := h.l; omega
theorem Bn.y1 (h : Bn B ts w rb tv sv0 sv E o j qs nb q wr) (hk : Kp (fun k => k = rb) wr w') (hr : Ry B ts w' rb tv sv E' o' j' qs) : Bn B ts w rb tv sv0 sv E' o' j' qs nb q w' :=
  ⟨hr, hk.blk h.b h.ne, h.k.next h.a hk.r, h.a, h.n, h.l, h.s⟩
theorem Bn.y2 (h : Bn B ts w rb tv sv0 sv E o j qs nb q wr) (hk : Kp (Tq rb sv) wr w') (ha : At wr sv sv') (hr : Ry B ts w' rb tv sv' E' o' j' qs') : Bn B ts w rb tv sv0 sv' E' o' j' qs' nb q w' :=
  ⟨hr, hk.blk h.b (fun e => e.elim (fun e => h.ne e) (fun e => h.s _ e rfl)), h.k.next h.a hk, h.a.trans ha h.k.size, h.n, h.l, fun g hg e => by
    rcases ha g hg with h1 | h1
    · exact h.s g h1 e
    · have := lt_of_block h.b; omega⟩
theorem Bn.tk (h : Bn B ts w rb tv sv0 sv E o j qs nb q wr) : TK wr (fun k => k = nb) := by
  rintro k rfl c t fz hc
  have hb : wr.heap[k]? = some (.cells q.cells.toArray 44 (0, 0)) := h.b
  rw [hb] at hc; cases hc; decide
theorem Bn.set (h : Bn B ts w rb tv sv0 sv E o j qs nb q wr) (hS : S6 nb q'.cells.toArray w') (hk : Kp (fun k => k = nb) wr w') : Bn B ts w rb tv sv0 sv E o j qs nb q' w' :=
  ⟨h.r.kp hk (fun k e e2 => e.elim (fun e => h.ne (e2.symm.trans e)) (fun e => h.s _ e e2)) h.tk (fun k e => by have := h.r.bB; have := h.n; have := h.l; omega), hS, h.k.trans' hk (fun i hi e => by have := h.n; omega), h.a, h.n, h.l, h.s⟩
theorem Bn.set1 (h : Bn B ts w rb tv sv0 sv E o j qs nb q wr) (c : Nat) (v : Value) (hq : q.cells.toArray.setIfInBounds c v = q'.cells.toArray) : Bn B ts w rb tv sv0 sv E o j qs nb q' (wr.setCell ⟨nb, c, none⟩ v) :=
  h.set (by have := block_set h.b c v; rw [hq] at this; exact this) (Kp.set (T := fun k => k = nb) rfl v)
theorem Bn.on (h : Bn B ts w rb tv sv0 sv E o j qs nb q wr) (hb : Below wr.heap.size wr w') : Bn B ts w rb tv sv0 sv E o j qs nb q w' :=
  h.y1 (Kp.of hb) (h.r.on hb)
theorem Bn.start (h : Ry B ts wr rb tv sv E o j qs) (hk : Kp (Tq rb sv0) w wr) (ha : At w sv0 sv) (hl : rb < w.heap.size) (q : Nd) : Bn B ts w rb tv sv0 sv E o j qs wr.heap.size q (wr.alloc (.cells q.cells.toArray 44)) :=
  ⟨h.on ((Below.refl _ _).alloc (Nat.le_refl _) _), alloc_block _ _, hk.trans (Kp.alloc _ _ _), ha, hk.size, hl, fun g hg e => by have h1 : g < wr.heap.size := (h.own.at hg).2; omega⟩
theorem Bn.start2 (h : Ry B ts wr rb tv sv E o j qs) (hk : Kp (Tq rb sv0) w wr) (ha : At w sv0 sv) (hl : rb < w.heap.size) (hS : S6 wr.heap.size q.cells.toArray w') (hk' : Kp (fun k => k = wr.heap.size) (wr.alloc (.cells zNd 44)) w') : Bn B ts w rb tv sv0 sv E o j qs wr.heap.size q w' :=
  (Bn.start h hk ha hl (bare n0)).set hS hk'
end
end Go.Proofs.Ytjekpclbedbaoaa
namespace Go.Proofs.Ytjekpclbedbaoaa
open Go.RowKit Go.Joins

/- A node as it may be handed in: its value's numbers, its rows wherever they lie. -/
structure Nx where
  np : Np
  h0 : Int
  h1 : Int
  h2 : Int
  h3 : Int
  h4 : Int
  h5 : Int
  h6 : Int
  h7 : Int
  lv : Value
  nv : Value
  gv : Value
def Nx.cells (q : Nx) : List Value := [.int .i64 q.np.kind, .string (St q.np.s), .int .i64 q.np.n, .int .i64 q.np.from_, .int .i64 q.np.to_, .int .i64 q.np.vk, .int .i64 q.np.vn, .string (St q.np.vs), .int .i64 q.h0, .int .i64 q.h1, .int .i64 q.h2, .int .i64 q.h3, .int .i64 q.h4, .int .i64 q.h5, .int .i64 q.h6, .int .i64 q.h7, q.lv, q.nv, q.gv]
structure NxAt (Q : Nat → Prop) (w : World) (q : Nx) : Prop where
  l : SlAt Q int1 1 w q.lv q.np.l
  n : SlAt Q str1 1 w q.nv q.np.names
  g : SlAt Q ag2 2 w q.gv q.np.aggs
structure Qx (Q : Nat → Prop) (w : World) (v : Value) (qs : List Nx) : Prop where
  sl : SlAt Q Nx.cells 19 w v qs
  each : ∀ q ∈ qs, NxAt Q w q
theorem NxAt.kp {Q T : Nat → Prop} {w w' : World} {q : Nx} (h : NxAt Q w q) (hk : Kp T w w') (ht : ∀ b, Q b → ¬ T b) : NxAt Q w' q := ⟨h.l.kp hk ht, h.n.kp hk ht, h.g.kp hk ht⟩
theorem Qx.kp {Q T : Nat → Prop} {w w' : World} {v : Value} {qs : List Nx} (h : Qx Q w v qs) (hk : Kp T w w') (ht : ∀ b, Q b → ¬ T b) : Qx Q w' v qs := ⟨h.sl.kp hk ht, fun q hq => (h.each q hq).kp hk ht⟩
theorem SlAt.one {α : Type} {Q : Nat → Prop} {enc : α → List Value} {k : Nat} {w : World} {v : Value} {xs : List α} (h : SlAt Q enc k w v xs) : v.oneCell' = true := by obtain ⟨p, c, rfl, -⟩ := h; rfl
theorem nx_one {Q : Nat → Prop} {w : World} {q : Nx} (h : NxAt Q w q) : ∀ c ∈ q.cells, c.oneCell' = true := by
  intro v hv
  have h1 := h.l.one
  have h2 := h.n.one
  have h3 := h.g.one
  simp [Nx.cells] at hv
  rcases hv with rfl | rfl | rfl | rfl | rfl | rfl | rfl | rfl | rfl | rfl | rfl | rfl | rfl | rfl | rfl | rfl | rfl | rfl | rfl <;> first | rfl | assumption
/- As mathematics. -/
def nmL (i : Nat) (seen : List Int) : List Int → Option (List Int)
  | [] => some seen
  | k :: r => if k < 0 ∨ (i : Int) ≤ k ∨ k ∈ seen then none else nmL i (k :: seen) r
def treeL : List Np → Nat → List Int → Bool
  | [], _, _ => true
  | n :: r, i, seen => if (n.l.length : Int) = belowN n.kind then (match nmL i seen n.l with | none => false | some s => treeL r (i + 1) s) else false
def isTreeB (ns : List Np) : Bool := if ns.length = 0 ∨ 128 < ns.length then false else treeL ns 0 []
def blA (seen : List Int) : Array Value := ((List.range 128).map fun (j : Nat) => Value.bool (decide ((j : Int) ∈ seen))).toArray
theorem blA_at (seen : List Int) (k : Nat) (hk : k < 128) : (blA seen)[k]? = some (.bool (decide ((k : Int) ∈ seen))) := by
  unfold blA; simp [hk]
theorem blA_set (seen : List Int) (k : Nat) : (blA seen).setIfInBounds k (.bool true) = blA ((k : Int) :: seen) := by
  apply Array.ext'
  apply List.ext_getElem?
  intro j
  unfold blA
  simp only [List.setIfInBounds_toArray, List.getElem?_set, List.getElem?_map, List.length_map, List.length_range]
  by_cases hj : j < 128
  · by_cases e : k = j
    · subst e; simp [hj]
    · have : ¬ (j : Int) = k := by omega
      simp [e, hj, this]
  · by_cases e : k = j
    · subst e; simp [hj]
    · simp [e, hj]
theorem blA_nil : blA [] = Array.replicate 128 (.bool false) := by kernel_rfl
end Go.Proofs.Ytjekpclbedbaoaa
