/-
  What Join, Clone, Seen and Bits of package hints return.
-/
import Derived.Test.YtmkilckoeaekkaaQHJoin3
namespace Go.Proofs.Ytmkilckoeaekkaa
open Go.RowKit Go.Sort Go.Maps Go.Shelf

theorem joinX_any {B Bo M Mo : Nat} {w : World} {b bo : Nat} {x o : Ix} {T To : Nat → Prop} (hx : Hx B M w b x T) (ho : Hx Bo Mo w bo o To) (hne : ∀ k, T k → ¬ To k) (hB : B ≤ w.heap.size) (hM : M + Mo + 1 < maxLen) :
    Calls Try.prog 11 #[dp b, dp bo] w fun e w' => e = .returned (.tuple #[]) ∧ ∃ T', Hx B (M + Mo) w' b (x.join o) T' ∧ (∀ k, T' k → T k ∨ w.heap.size ≤ k) ∧ Kp T w w' := by
  obtain ⟨mo, f, c, N, h1, h2, h3, rfl⟩ := hx
  obtain ⟨moo, fo, co, No, o1, o2, o3, rfl⟩ := ho
  cases moo with
  | none =>
    refine (joinX_none (fun e => hne b (.inl rfl) (.inl e)) h1.blk o1.blk).mono ?_
    rintro e w' ⟨rfl, hb⟩
    refine ⟨rfl, _, ⟨mo, f, c, N, by rw [join_nothing (o1.nil rfl) o1.out]; exact h1.on hb, by omega, fun n hn => ?_, rfl⟩, fun k hk => .inl ?_, Kp.of hb⟩
    · rw [join_nothing (o1.nil rfl) o1.out] at hn; have := h3 n hn; omega
    · rw [join_nothing (o1.nil rfl) o1.out] at hk; exact hk
  | some mO => exact joinX_some h1 o1 h2 h3 o2 o3 hne hB hM
theorem none_join (x : Ix) : Ix.none.join x = x := Ix.ext (fun n => by simp [Ix.join, Ix.none]) (fun n g => by simp [Ix.join, Ix.none])
set_option maxHeartbeats 1000000 in
theorem clone_any {B M : Nat} {w : World} {b : Nat} {x : Ix} {T : Nat → Prop} (h : Hx B M w b x T) (hM : M + 1 < maxLen) : Calls Try.prog 13 #[dp b] w fun e w' => ∃ b' T', e = .returned (dp b') ∧ Hx w.heap.size M w' b' x T' ∧ Below w.heap.size w w' := by
  have HX := hid h
  have HM := hid hM
  have HL := hid h.T_lt
  clear h hM
  go_enter Try.func13, Try.ntmps13
  go_wp2_with (first
    | (go_at_call 7; refine (new_any (Nat.le_refl w.heap.size)).mono ?_; rintro e w1 ⟨b1, rfl, hk1, hb1, hbl⟩; have HK := hid (Hx.made hk1); have HB := hid hbl; have HE := hid hb1; clear hk1 hbl hb1)
    | (go_at_call 11; refine (joinX_any HK.out (HX.out.on HB.out) (fun k e ht => by have := HL.out k ht; have := HE.out; omega) HB.out.size (by have := HM.out; omega)).mono ?_; rintro e w2 ⟨rfl, T', hx', ht', hk'⟩; have HX' := hid hx'; have HT' := hid ht'; have HK' := hid hk'; clear hx' ht' hk'))
  go_ret
  refine ⟨b1, T', rfl, ?_, HB.out.trans (HK'.out.below HB.out.size (fun k e => by have := HE.out; omega))⟩
  have := HX'.out
  rw [none_join, Nat.zero_add] at this
  exact this
set_option maxHeartbeats 1000000 in
theorem seen_any {B M : Nat} {w : World} {b : Nat} {x : Ix} {T : Nat → Prop} (h : Hx B M w b x T) {s : ByteArray} (hs : s.size ≤ maxLen) : Calls Try.prog 14 #[dp b, .string s] w fun e w' => e = .returned (.bool (x.seen s)) ∧ w' = w := by
  obtain ⟨mo, f, c, N, hk, h2, h3, rfl⟩ := h
  cases mo with
  | none =>
    have k0 : ∀ o, w.cell? ⟨b, o, none⟩ = #[.map none][o]? := hk.cell
    have e0 := hk.nil rfl s
    have q := look_none (w := w) true hs
    rw [if_pos rfl] at q
    rw [e0]
    clear hk e0 h3
    go_enter Try.func14, Try.ntmps14
    go_wp2
    go_ret
    exact ⟨rfl, rfl⟩
  | some m =>
    have k0 : ∀ o, w.cell? ⟨b, o, none⟩ = #[mp m][o]? := hk.cell
    have q := hk.lookOk hs
    generalize (if x.seen s = true then mp (f s) else Value.map none) = v at *
    generalize x.seen s = sn at *
    clear hk h3
    go_enter Try.func14, Try.ntmps14
    go_wp2
    go_ret
    exact ⟨rfl, rfl⟩
set_option maxHeartbeats 1000000 in
theorem bits_any {B M : Nat} {w : World} {b : Nat} {x : Ix} {T : Nat → Prop} (h : Hx B M w b x T) {s t : ByteArray} (hs : s.size ≤ maxLen) (ht : t.size ≤ maxLen) : Calls Try.prog 16 #[dp b, .string s, .string t] w fun e w' => e = .returned (B4 (x.bits s t)) ∧ Below w.heap.size w w' := by
  obtain ⟨mo, f, c, N, hk, h2, h3, rfl⟩ := h
  have hk1 := hk.on ((Below.refl w.heap.size w).alloc (Nat.le_refl _) (.cells zs 49 (0, 0)))
  have KZ := hid (Fb.zero w)
  have HB : Hid (Below w.heap.size w (w.alloc (.cells zs 49 (0, 0)))) := (Below.refl _ _).alloc (Nat.le_refl _) _
  generalize hW : w.alloc (.cells zs 49 (0, 0)) = w1 at *
  have HW := hid hW
  clear hW
  obtain ⟨mv, F, hF, h0, h1⟩ : ∃ mv F, x.bits s t = F ∧ (Instr.lookup 66 (mkM mo) (.string s) false).run Try.prog w1 = .ok mv w1 ∧ (Instr.lookup 70 mv (.string t) false).run Try.prog w1 = .ok (B4 F) w1 := by
    cases mo with
    | none =>
      have q := look_none (w := w1) false hs
      rw [if_neg (by simp)] at q
      exact ⟨_, 0, hk.out s (hk.nil rfl s) t, q, lookB_none ht⟩
    | some m =>
      have q := hk1.look hs
      cases hx : x.seen s with
      | true => rw [hx, if_pos rfl] at q; exact ⟨_, _, rfl, q, (hk1.inn s hx).2.look ht⟩
      | false => rw [hx, if_neg (by simp)] at q; exact ⟨_, 0, hk.out s hx t, q, lookB_none ht⟩
  have k0 : ∀ o, w1.cell? ⟨b, o, none⟩ = #[mkM mo][o]? := hk1.cell
  rw [hF]
  generalize mkM mo = mv0 at *
  clear hk hk1 h3 hF hs ht
  have c0 := KZ.out.cells
  have f0 := KZ.out.frozen
  have l0 := KZ.out.lt
  go_enter Try.func16, Try.ntmps16
  go_upto_region 1 with fail
  rw [HW.out]
  go_wp2
  refine bodyPost_ret (v := B4 F) (by simp [results, Try.results16, go_sem, c0]) rfl ⟨rfl, ?_⟩
  have hbw := HB.out
  clear c0 f0
  go_grown
end Go.Proofs.Ytmkilckoeaekkaa
