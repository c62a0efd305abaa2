/-
  What the reference's text returns.
-/
import Derived.Test.YtomnjckbgmbgmaaGreatDoorQRNum
namespace Go.Proofs.YtomnjckbgmbgmaaGreatDoor
open Go.RowKit Go.Joins
/-- The reference's own way through a text: behind a sign two bytes at once; how long it is is asked at the end. -/
def rtx (acc : List UInt8) (i : Nat) : List UInt8 → Option (List UInt8 × Nat)
  | [] => none
  | [c] => if c.toNat = 34 then (if acc.length ≤ 64 then some (acc, i + 1) else none) else none
  | c :: d :: r =>
    if c.toNat = 34 then (if acc.length ≤ 64 then some (acc, i + 1) else none)
    else if c.toNat = 92 then (if nSl d then rtx (acc ++ [d]) (i + 2) r else none)
    else rtx (acc ++ [c]) (i + 1) (d :: r)
theorem txtF_long : ∀ (l acc : List UInt8) (sl : Bool) (k : Nat), 64 < acc.length → txtF acc sl k l = none
  | [], _, _, _, _ => rfl
  | c :: r, acc, sl, k, h => tx_no2 acc r k sl c h
theorem rtx_long : ∀ (f : Nat) (l acc : List UInt8) (i : Nat), l.length ≤ f → 64 < acc.length → rtx acc i l = none
  | _, [], _, _, _, _ => rfl
  | _, [c], acc, i, _, h => by
    unfold rtx; rw [if_neg (show ¬ acc.length ≤ 64 by omega)]; split <;> rfl
  | 0, c :: d :: r, _, _, hf, _ => by simp at hf
  | f + 1, c :: d :: r, acc, i, hf, h => by
    unfold rtx
    rw [if_neg (show ¬ acc.length ≤ 64 by omega)]
    split
    · rfl
    · split
      · split
        · exact rtx_long f r _ _ (by simp at hf; omega) (by simp; omega)
        · rfl
      · exact rtx_long f (d :: r) _ _ (by simp at hf ⊢; omega) (by simp; omega)
/-- The two ways are one: where the program stands at k, the reference stands at k + 1. -/
theorem rtx_eq : ∀ (f : Nat) (l acc : List UInt8) (k : Nat), l.length ≤ f → rtx acc (k + 1) l = txtF acc false k l
  | _, [], _, _, _ => rfl
  | _, [c], acc, k, _ => by
    by_cases h : 64 < acc.length
    · rw [txtF_long _ _ _ _ h, rtx_long 1 _ _ _ (by simp) h]
    · unfold rtx
      rw [if_pos (show acc.length ≤ 64 by omega)]
      by_cases h34 : c.toNat = 34
      · rw [if_pos h34, tx_end _ _ _ h h34]
      · rw [if_neg h34]
        by_cases h92 : c.toNat = 92
        · rw [tx_sl _ _ _ h h92]; rfl
        · rw [tx_app0 _ _ _ h h34 h92]; rfl
  | 0, c :: d :: r, _, _, hf => by simp at hf
  | f + 1, c :: d :: r, acc, k, hf => by
    by_cases h : 64 < acc.length
    · rw [txtF_long _ _ _ _ h, rtx_long (f + 1) _ _ _ hf h]
    · unfold rtx
      rw [if_pos (show acc.length ≤ 64 by omega)]
      by_cases h34 : c.toNat = 34
      · rw [if_pos h34, tx_end _ _ _ h h34]
      · rw [if_neg h34]
        by_cases h92 : c.toNat = 92
        · rw [if_pos h92, tx_sl _ _ _ h h92]
          cases hn : nSl d with
          | true =>
            rw [if_pos rfl, tx_app1 _ _ _ h hn]
            exact rtx_eq f r (acc ++ [d]) (k + 2) (by simp at hf; omega)
          | false => rw [if_neg (by simp), tx_no1 _ _ _ hn]
        · rw [if_neg h92, tx_app0 _ _ _ h h34 h92]
          exact rtx_eq f (d :: r) (acc ++ [c]) (k + 1) (by simp at hf ⊢; omega)
def RTextP (r : Option (List UInt8 × Nat)) (w : World) (e : Ending) (w' : World) : Prop :=
  (∃ (s : List UInt8) (k : Int), e = .returned (.tuple #[.string (St s), .int .i64 k, .bool r.isSome]) ∧ ∀ b n, r = some (b, n) → s = b ∧ k = (n : Int)) ∧ Below w.heap.size w w'
theorem rt_end {acc r : List UInt8} {i : Nat} {c : UInt8} (h : c.toNat = 34) : rtx acc i (c :: r) = if acc.length ≤ 64 then some (acc, i + 1) else none := by
  cases r <;> (unfold rtx; rw [if_pos h])
theorem rt_sl0 {acc : List UInt8} {i : Nat} {c : UInt8} (h : ¬ c.toNat = 34) : rtx acc i [c] = none := by unfold rtx; rw [if_neg h]
theorem rt_sl1 {acc r : List UInt8} {i : Nat} {c d : UInt8} (h : c.toNat = 92) (hn : nSl d = true) : rtx acc i (c :: d :: r) = rtx (acc ++ [d]) (i + 2) r := by
  rw [rtx, if_neg (by omega), if_pos h, if_pos hn]
theorem rt_sl2 {acc r : List UInt8} {i : Nat} {c d : UInt8} (h : c.toNat = 92) (hn : nSl d = false) : rtx acc i (c :: d :: r) = none := by
  rw [rtx, if_neg (by omega), if_pos h, if_neg (by simp [hn])]
theorem rt_app {acc r : List UInt8} {i : Nat} {c : UInt8} (h : ¬ c.toNat = 34) (h2 : ¬ c.toNat = 92) : rtx acc i (c :: r) = rtx (acc ++ [c]) (i + 1) r := by
  cases r with
  | nil => rw [rt_sl0 h]; rfl
  | cons d r => rw [rtx, if_neg h, if_neg h2]
set_option maxRecDepth 100000 in
set_option maxHeartbeats 1000000 in
theorem rtext_any (l : List UInt8) (hl : (l.length : Int) ≤ 2048) (h1 : 0 < l.length) (w : World) : Calls Tryz.prog 68 #[.string (St l)] w (RTextP (rtx [] 1 l.tail) w) := by
  have hsz := St_size l
  have h1I : 0 < (l.length : Int) := by omega
  have HTl := hid (show l.drop 1 = l.tail by simp)
  generalize hR : rtx [] 1 l.tail = R
  rw [← HTl.out] at hR
  have HR := hid hR
  clear hR HTl
  go_enter Tryz.func68, Tryz.ntmps68
  go_wp2_with fail
  go_loopw [5, 6] (fun v i wr => ∃ (k : Nat) (acc : List UInt8), (k : Int) ≤ l.length ∧ i = .int .i64 k ∧ Hid (acc.length ≤ k) ∧ Hid (rtx acc k (l.drop k) = R) ∧ Hid (wr.ownsRow w.heap.size 5 1 v acc.length (bytesV acc)) ∧ Hid (Below w.heap.size w wr)) (fun _ i _ => l.length - (intOf i).toNat)
  case atStart =>
    refine ⟨1, [], by omega, rfl, by show 0 ≤ 1; omega, HR.out, ?_, ?_⟩
    · exact World.ownsRow_made w #[] 0 (Nat.le_refl _) (by unfold maxLen; omega) rfl
    · exact (Below.refl _ w).alloc (Nat.le_refl _) _
  case round =>
    clear HR
    obtain ⟨k, acc, hk, rfl, HL, HT, HK, HB⟩ := hrel
    obtain ⟨p, cap, rfl⟩ : ∃ p cap, u5 = Value.slice p acc.length cap := by
      rcases ownsRow_forms HK.out with ⟨rfl, h0⟩ | ⟨g, cap, rfl⟩
      · exact ⟨none, 0, by rw [h0]⟩
      · exact ⟨_, _, rfl⟩
    have hsz9 : w.heap.size ≤ wr.heap.size := HB.out.size
    by_cases hlt : k < l.length
    · have hi := idx l k hlt
      have hkI : (k : Int) < l.length := by omega
      rw [drop_at hlt] at HT
      generalize l[k] = c at *
      by_cases h34 : c.toNat = 34
      · have h34I : (c.toNat : Int) = 34 := by omega
        have hcv := conv_own' HK.out rfl
        rw [rt_end h34] at HT
        go_wp2_with fail
        refine bodyPost_ret (v := .tuple #[.string (St acc), .int .i64 ((k : Int) + 1), .bool (decide ((acc.length : Int) ≤ 64))]) (by simp [results, Tryz.results68, go_sem]) rfl ⟨⟨acc, (k : Int) + 1, ?_, ?_⟩, HB.out⟩
        · rw [← HT.out]
          by_cases h64 : acc.length ≤ 64
          · rw [if_pos h64, decide_eq_true (show (acc.length : Int) ≤ 64 by omega)]; rfl
          · rw [if_neg h64, decide_eq_false (show ¬ (acc.length : Int) ≤ 64 by omega)]; rfl
        · intro b n hbn
          rw [← HT.out] at hbn
          split at hbn
          · cases hbn; exact ⟨rfl, by simp⟩
          · cases hbn
      · have h34I : ¬ (c.toNat : Int) = 34 := by omega
        by_cases h92 : c.toNat = 92
        · have h92I : (c.toNat : Int) = 92 := by omega
          by_cases hlt2 : k + 1 < l.length
          · have hi2 := idx l (k + 1) hlt2
            simp only [Int.natCast_add, Int.natCast_one] at hi2
            have hk2 : ¬ (l.length : Int) ≤ (k : Int) + 1 := by omega
            rw [drop_at hlt2] at HT
            generalize l[k + 1] = d at *
            cases hn : nSl d with
            | true =>
              rw [rt_sl1 h92 hn] at HT
              simp [nSl] at hn
              rcases hn with hn | hn
              · have hnI : (d.toNat : Int) = 34 := by omega
                go_wp2_with (at_builtin; refine app1 rfl _ _ rfl rfl (HK.out.alloc _) rfl (alloc_cell _ _ _) rfl (by have := HL.out; omega) (by go_size) ?_; intro v1 w1 ho1 hb1; have HK1 := hid ho1; have HB1 := hid ((HB.out.alloc hsz9 _).trans hb1); clear ho1 hb1)
                go_roundw
                case rel =>
                  exact ⟨k + 2, acc ++ [d], by omega, by go_num, by show _ ≤ _; simp; have := HL.out; omega, HT.out, own_cast HK1.out (by simp) (by simp [bytesV, hn]), HB1.out⟩
                case measure => simp [intOf]; omega
              · have hnI : (d.toNat : Int) = 92 := by omega
                go_wp2_with (at_builtin; refine app1 rfl _ _ rfl rfl (HK.out.alloc _) rfl (alloc_cell _ _ _) rfl (by have := HL.out; omega) (by go_size) ?_; intro v1 w1 ho1 hb1; have HK1 := hid ho1; have HB1 := hid ((HB.out.alloc hsz9 _).trans hb1); clear ho1 hb1)
                go_roundw
                case rel =>
                  exact ⟨k + 2, acc ++ [d], by omega, by go_num, by show _ ≤ _; simp; have := HL.out; omega, HT.out, own_cast HK1.out (by simp) (by simp [bytesV, hn]), HB1.out⟩
                case measure => simp [intOf]; omega
            | false =>
              rw [rt_sl2 h92 hn] at HT
              simp [nSl] at hn
              have hn1 : ¬ (d.toNat : Int) = 34 := by omega
              have hn2 : ¬ (d.toNat : Int) = 92 := by omega
              have hb1 : ((d.toNat : Int) != 34) = true := bne_iff_ne.2 hn1
              have hb2 : ((d.toNat : Int) != 92) = true := bne_iff_ne.2 hn2
              go_wp2_with fail
              refine bodyPost_ret (v := .tuple #[.string ⟨#[]⟩, .int .i64 0, .bool false]) (by simp [results, Tryz.results68, go_sem]) rfl ⟨⟨[], 0, ?_, ?_⟩, HB.out⟩
              · rw [← HT.out]; rfl
              · intro b n hbn; rw [← HT.out] at hbn; cases hbn
          · have hk2 : (l.length : Int) ≤ (k : Int) + 1 := by omega
            rw [show l.drop (k + 1) = [] from List.drop_of_length_le (by omega), rt_sl0 h34] at HT
            go_wp2_with fail
            refine bodyPost_ret (v := .tuple #[.string ⟨#[]⟩, .int .i64 0, .bool false]) (by simp [results, Tryz.results68, go_sem]) rfl ⟨⟨[], 0, ?_, ?_⟩, HB.out⟩
            · rw [← HT.out]; rfl
            · intro b n hbn; rw [← HT.out] at hbn; cases hbn
        · have h92I : ¬ (c.toNat : Int) = 92 := by omega
          rw [rt_app h34 h92] at HT
          go_wp2_with (at_builtin; refine app1 rfl _ _ rfl rfl (HK.out.alloc _) rfl (alloc_cell _ _ _) rfl (by have := HL.out; omega) (by go_size) ?_; intro v1 w1 ho1 hb1; have HK1 := hid ho1; have HB1 := hid ((HB.out.alloc hsz9 _).trans hb1); clear ho1 hb1)
          go_roundw
          case rel =>
            exact ⟨k + 1, acc ++ [c], by omega, by go_num, by show _ ≤ _; simp; have := HL.out; omega, HT.out, own_cast HK1.out (by simp) (by simp [bytesV]), HB1.out⟩
          case measure => simp [intOf]; omega
    · rw [List.drop_of_length_le (by omega)] at HT
      have HT2 := hid (show none = R from HT.out)
      go_wp2_with fail
      refine bodyPost_ret (v := .tuple #[.string ⟨#[]⟩, .int .i64 0, .bool false]) (by simp [results, Tryz.results68, go_sem]) rfl ⟨⟨[], 0, ?_, ?_⟩, HB.out⟩
      · rw [← HT2.out]; rfl
      · intro b n hbn; rw [← HT2.out] at hbn; cases hbn
end Go.Proofs.YtomnjckbgmbgmaaGreatDoor
