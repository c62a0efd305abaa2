/-
  What the reference's Join of two indexes does.
-/
import Derived.Test.YtmkilckoeaekkaaQRLay
namespace Go.Proofs.Ytmkilckoeaekkaa
open Go.RowKit Go.Sort Go.Maps Go.Shelf

theorem layE_len (n f : ByteArray) (b : F256) : ∀ l : List En, (layE n f b l).length ≤ l.length + 1
  | [] => Nat.le_refl _
  | a :: r => by
    rw [layE]
    split
    · simp
    · have := layE_len n f b r; simp; omega
theorem joinE_snoc : ∀ (r l : List En) (e : En), joinE l (r ++ [e]) = layE e.nm e.fd e.b (joinE l r)
  | [], _, _ => rfl
  | a :: r, l, e => by rw [List.cons_append, joinE, joinE, joinE_snoc r]
theorem joinE_take {l r : List En} {k : Nat} {e : En} (h : r[k]? = some e) : joinE l (r.take (k + 1)) = layE e.nm e.fd e.b (joinE l (r.take k)) := by
  rw [List.take_add_one, h]; exact joinE_snoc _ _ _
theorem joinE_len : ∀ (r l : List En), (joinE l r).length ≤ l.length + r.length
  | [], l => by simp [joinE]
  | e :: r, l => by
    rw [joinE]
    have h1 := joinE_len r (layE e.nm e.fd e.b l)
    have h2 := layE_len e.nm e.fd e.b l
    simp
    omega
abbrev S7 (bo g o : Nat) (so : Value) (e : En) (W : World) : Prop := W.cell? ⟨bo, 0, none⟩ = some so ∧ W.cell? ⟨g, o, none⟩ = some (.string e.nm) ∧ W.cell? ⟨g, o + 1, none⟩ = some (.string e.fd) ∧ W.cell? ⟨g, o + 2, none⟩ = some (.int .u64 (u (fw e.b 0))) ∧ W.cell? ⟨g, o + 2 + 1, none⟩ = some (.int .u64 (u (fw e.b 1))) ∧ W.cell? ⟨g, o + 2 + 2, none⟩ = some (.int .u64 (u (fw e.b 2))) ∧ W.cell? ⟨g, o + 2 + 3, none⟩ = some (.int .u64 (u (fw e.b 3)))
theorem s7D {bo g o : Nat} {so : Value} {e : En} {W : World} (h : S7 bo g o so e W) : S7 bo g o so e W.drew := h
theorem LayP.lay {B : Nat} {w w1 w2 : World} {b : Nat} {sv sv1 : Value} {l : List En} (h1 : ∀ k, Tr b sv1 k → Tr b sv k ∨ w.heap.size ≤ k) (hk : Kp (Tr b sv) w w1) (h2 : LayP B w1 b sv1 l w2) : LayP B w b sv l w2 := by
  obtain ⟨sv', hr, ht, hk2⟩ := h2
  refine ⟨sv', hr, fun k hk' => ?_, hk.trans' hk2 (fun i hi hT => ?_)⟩
  · rcases ht k hk' with h | h
    · exact h1 k h
    · exact .inr (Nat.le_trans hk.size h)
  · rcases h1 i hT with h | h
    · exact h
    · omega
set_option maxRecDepth 100000 in
set_option maxHeartbeats 4000000 in
theorem rjoinX_any {B Bo : Nat} {w : World} {b bo : Nat} {sv so : Value} {l r : List En} (hx : Rk B w b sv l) (ho : Rk Bo w bo so r) (hne : ∀ k, Tr b sv k → ¬ Tr bo so k) (hB : B ≤ w.heap.size) (hl : l.length + r.length ≤ 1000000000000) :
    Calls Try.prog 12 #[dp b, dp bo] w fun e w' => e = .returned (.tuple #[]) ∧ LayP B w b sv (joinE l r) w' := by
  obtain ⟨p, c, rfl⟩ := ho.own.form
  have HX := hid hx
  have HO := hid ho
  have HNe := hid hne
  have HB := hid hB
  have HL := hid hl
  clear hx ho hne hB hl
  generalize hnr : r.length = nr at *
  have HNr := hid hnr
  clear hnr
  have hnr1 : nr ≤ 1000000000000 := by have := HL.out; omega
  go_enter Try.func12, Try.ntmps12
  go_wp2_with fail
  go_loopw [4] (fun i wr => ∃ k : Nat, k ≤ nr ∧ i = .int .i64 k ∧ Hid (LayP B w b sv (joinE l (r.take k)) wr)) (fun i _ => nr - (intOf i).toNat)
  case atStart => exact ⟨0, by omega, rfl, ⟨sv, HX.out, fun k hk => .inl hk, Kp.refl _ _⟩⟩
  case round =>
    obtain ⟨k, hk, rfl, HP⟩ := hrel
    obtain ⟨sv1, hr1, ht1, hk1⟩ := HP.out
    have ho1 := HO.out.kp hk1 (fun j hj hT => HNe.out j hT hj)
    have k0 := ho1.cell
    by_cases hlt : k < nr
    · obtain ⟨e, he⟩ : ∃ e, r[k]? = some e := ⟨r[k]'(by rw [HNr.out]; omega), List.getElem?_eq_getElem _⟩
      obtain ⟨g, rfl, hc, -, cs, hgb⟩ := ho1.at he
      have HT := hid (joinE_take (l := l) he)
      have HR1 := hid hr1
      have HT1 := hid ht1
      have HK1 := hid hk1
      have HO1 := hid ho1
      have HGb := hid hgb
      have hS0 : S7 bo g (k * 6) (.slice (some ⟨g, 0, none⟩) nr c) e wr := ⟨k0 0, hc.c0, hc.c1, hc.c2, hc.c3, hc.c4, hc.c5⟩
      have HLl : Hid ((joinE l (r.take k)).length ≤ 1000000000000) := by
        have h1 := joinE_len (r.take k) l
        have h2 := HL.out
        rw [List.length_take, HNr.out] at h1
        show _ ≤ _; omega
      have hno : ∀ j, Tr bo (.slice (some ⟨g, 0, none⟩) nr c) j → ¬ Tr b sv1 j := fun j hj hT => by
        rcases ht1 j hT with h | h
        · exact HNe.out j h hj
        · have := HO.out.T_lt j hj; omega
      have HNb := hid (hno bo (.inl rfl))
      have HNg := hid (hno g (.inr rfl))
      have i1 : (0 : Int) ≤ (k : Int) := by omega
      have i2 : (k : Int) < (nr : Int) := by omega
      clear hno he hr1 ht1 hk1 ho1 hgb hc k0 HP
      go_upto_region 3 with fail
      go_region_held3 (S7 bo g (k * 6) (.slice (some ⟨g, 0, none⟩) nr c) e) (((repeat (first | (with_reducible refine s7D ?_))); (with_reducible assumption)))
        (first
        | (go_at_call 25; refine (lay_any (HR1.out.on (Below.refl _ _).drew) (by have := HB.out; have := HK1.out.size; show _ ≤ wr.heap.size; omega) e.nm e.fd e.b HLl.out).mono ?_; rintro e' w2 ⟨rfl, hp2⟩; have HP2 := hid hp2; have hS2 : S7 bo g (k * 6) (.slice (some ⟨g, 0, none⟩) nr c) e w2 := (by obtain ⟨sv2, -, -, hk2⟩ := hp2; exact ⟨hk2.cell hS0.1 HNb.out, hk2.cell hS0.2.1 HNg.out, hk2.cell hS0.2.2.1 HNg.out, hk2.cell hS0.2.2.2.1 HNg.out, hk2.cell hS0.2.2.2.2.1 HNg.out, hk2.cell hS0.2.2.2.2.2.1 HNg.out, hk2.cell hS0.2.2.2.2.2.2 HNg.out⟩); clear hp2))
      clear hS2 hS0
      go_wp2
      go_roundw
      case rel =>
        refine ⟨k + 1, by omega, by go_num, ?_⟩
        show LayP _ _ _ _ _ _
        rw [HT.out]
        exact LayP.lay HT1.out (HK1.out.trans (Kp.drew _ _)) HP2.out
      case measure => simp [intOf]; omega
    · obtain rfl : k = nr := by omega
      have HF : Hid (LayP B w b sv (joinE l r) wr) := by
        have h9 := HP.out
        rw [List.take_of_length_le (by rw [HNr.out]; exact Nat.le_refl _)] at h9
        exact h9
      clear ho1 hr1 ht1 hk1 HP
      go_wp2
      go_returns
      exact ⟨rfl, HF.out⟩
end Go.Proofs.Ytmkilckoeaekkaa
