/-
  What the reference's text returns.
  What the reference says of a byte.
  What the reference's one returns: a word, a text, a sign.
  What the reference's one returns: a sign, or nothing.
  A number's digits, counted from their first.
  What the reference's one returns: a number.
-/
import Derived.Test.YtjekpclbedbaoaaKS03
import Derived.Test.YtjekpclbedbaoaaKS07
import Derived.Deep.DeepCutAuto
namespace Go.Proofs.Ytjekpclbedbaoaa
open Go.RowKit Go.Joins
/-- The reference's own way through a text: behind a sign two bytes at once; how long it is is asked at the end. -/
def rtx (acc : List UInt8) (i : Nat) : List UInt8 → Option (List UInt8 × Nat)
  | [] => none
  | [c] => if c.toNat = 34 then (if acc.length ≤ 64 then some (acc, i + 1) else none) else none
  | c :: d :: r =>
    if c.toNat = 34 then (if acc.length ≤ 64 then some (acc, i + 1) else none)
    else if c.toNat = 92 then (if nSl d then rtx (acc ++ [d]) (i + 2) r else none)
    else rtx (acc ++ [c]) (i + 1) (d :: r)
theorem txtF_long : ∀ (l acc : List UInt8) (sl : Bool) (k : Nat), 64 < acc.length → txtF acc sl k l = none
  | [], _, _, _, _ => rfl
  | c :: r, acc, sl, k, h => tx_no2 acc r k sl c h
theorem rtx_long : ∀ (f : Nat) (l acc : List UInt8) (i : Nat), l.length ≤ f → 64 < acc.length → rtx acc i l = none
  | _, [], _, _, _, _ => rfl
  | _, [c], acc, i, _, h => by
    unfold rtx; rw [if_neg (show ¬ acc.length ≤ 64 by omega)]; split <;> rfl
  | 0, c :: d :: r, _, _, hf, _ => by simp at hf
  | f + 1, c :: d :: r, acc, i, hf, h => by
    unfold rtx
    rw [if_neg (show ¬ acc.length ≤ 64 by omega)]
    split
    · rfl
    · split
      · split
        · exact rtx_long f r _ _ (by simp at hf; omega) (by simp; omega)
        · rfl
      · exact rtx_long f (d :: r) _ _ (by simp at hf ⊢; omega) (by simp; omega)
/-- The two ways are one: where the program stands at k, the reference stands at k + 1. -/
theorem rtx_eq : ∀ (f : Nat) (l acc : List UInt8) (k : Nat), l.length ≤ f → rtx acc (k + 1) l = txtF acc false k l
  | _, [], _, _, _ => rfl
  | _, [c], acc, k, _ => by
    by_cases h : 64 < acc.length
    · rw [txtF_long _ _ _ _ h, rtx_long 1 _ _ _ (by simp) h]
    · unfold rtx
      rw [if_pos (show acc.length ≤ 64 by omega)]
      by_cases h34 : c.toNat = 34
      · rw [if_pos h34, tx_end _ _ _ h h34]
      · rw [if_neg h34]
        by_cases h92 : c.toNat = 92
        · rw [tx_sl _ _ _ h h92]; rfl
        · rw [tx_app0 _ _ _ h h34 h92]; rfl
  | 0, c :: d :: r, _, _, hf => by simp at hf
  | f + 1, c :: d :: r, acc, k, hf => by
    by_cases h : 64 < acc.length
    · rw [txtF_long _ _ _ _ h, rtx_long (f + 1) _ _ _ hf h]
    · unfold rtx
      rw [if_pos (show acc.length ≤ 64 by omega)]
      by_cases h34 : c.toNat = 34
      · rw [if_pos h34, tx_end _ _ _ h h34]
      · rw [if_neg h34]
        by_cases h92 : c.toNat = 92
        · rw [if_pos h92, tx_sl _ _ _ h h92]
          cases hn : nSl d with
          | true =>
            rw [if_pos rfl, tx_app1 _ _ _ h hn]
            exact rtx_eq f r (acc ++ [d]) (k + 2) (by simp at hf; omega)
          | false => rw [if_neg (by simp), tx_no1 _ _ _ hn]
        · rw [if_neg h92, tx_app0 _ _ _ h h34 h92]
          exact rtx_eq f (d :: r) (acc ++ [c]) (k + 1) (by simp at hf ⊢; omega)
def RTextP (r : Option (List UInt8 × Nat)) (w : World) (e : Ending) (w' : World) : Prop :=
  (∃ (s : List UInt8) (k : Int), e = .returned (.tuple #[.string (St s), .int .i64 k, .bool r.isSome]) ∧ ∀ b n, r = some (b, n) → s = b ∧ k = (n : Int)) ∧ Below w.heap.size w w'
theorem rt_end {acc r : List UInt8} {i : Nat} {c : UInt8} (h : c.toNat = 34) : rtx acc i (c :: r) = if acc.length ≤ 64 then some (acc, i + 1) else none := by
  cases r <;> (unfold rtx; rw [if_pos h])
theorem rt_sl0 {acc : List UInt8} {i : Nat} {c : UInt8} (h : ¬ c.toNat = 34) : rtx acc i [c] = none := by unfold rtx; rw [if_neg h]
theorem rt_sl1 {acc r : List UInt8} {i : Nat} {c d : UInt8} (h : c.toNat = 92) (hn : nSl d = true) : rtx acc i (c :: d :: r) = rtx (acc ++ [d]) (i + 2) r := by
  rw [rtx, if_neg (by omega), if_pos h, if_pos hn]
theorem rt_sl2 {acc r : List UInt8} {i : Nat} {c d : UInt8} (h : c.toNat = 92) (hn : nSl d = false) : rtx acc i (c :: d :: r) = none := by
  rw [rtx, if_neg (by omega), if_pos h, if_neg (by simp [hn])]
theorem rt_app {acc r : List UInt8} {i : Nat} {c : UInt8} (h : ¬ c.toNat = 34) (h2 : ¬ c.toNat = 92) : rtx acc i (c :: r) = rtx (acc ++ [c]) (i + 1) r := by
  cases r with
  | nil => rw [rt_sl0 h]; rfl
  | cons d r => rw [rtx, if_neg h, if_neg h2]
set_option maxRecDepth 100000 in
set_option maxHeartbeats 1000000 in
theorem rtext_any (l : List UInt8) (hl : (l.length : Int) ≤ 2048) (h1 : 0 < l.length) (w : World) : Calls Try.prog 50 #[.string (St l)] w (RTextP (rtx [] 1 l.tail) w) := by
  have hsz := St_size l
  have h1I : 0 < (l.length : Int) := by omega
  have HTl := hid (show l.drop 1 = l.tail by simp)
  generalize hR : rtx [] 1 l.tail = R
  rw [← HTl.out] at hR
  have HR := hid hR
  clear hR HTl
  go_enter Try.func50, Try.ntmps50
  go_wp2_with fail
  go_loopw [5, 6] (fun v i wr => ∃ (k : Nat) (acc : List UInt8), (k : Int) ≤ l.length ∧ i = .int .i64 k ∧ Hid (acc.length ≤ k) ∧ Hid (rtx acc k (l.drop k) = R) ∧ Hid (wr.ownsRow w.heap.size 5 1 v acc.length (bytesV acc)) ∧ Hid (Below w.heap.size w wr)) (fun _ i _ => l.length - (intOf i).toNat)
  case atStart =>
    refine ⟨1, [], by omega, rfl, by show 0 ≤ 1; omega, HR.out, ?_, ?_⟩
    · exact World.ownsRow_made w #[] 0 (Nat.le_refl _) (by unfold maxLen; omega) rfl
    · exact (Below.refl _ w).alloc (Nat.le_refl _) _
  case round =>
    clear HR
    obtain ⟨k, acc, hk, rfl, HL, HT, HK, HB⟩ := hrel
    obtain ⟨p, cap, rfl⟩ : ∃ p cap, u5 = Value.slice p acc.length cap := by
      rcases ownsRow_forms HK.out with ⟨rfl, h0⟩ | ⟨g, cap, rfl⟩
      · exact ⟨none, 0, by rw [h0]⟩
      · exact ⟨_, _, rfl⟩
    have hsz9 : w.heap.size ≤ wr.heap.size := HB.out.size
    by_cases hlt : k < l.length
    · have hi := idx l k hlt
      have hkI : (k : Int) < l.length := by omega
      rw [drop_at hlt] at HT
      generalize l[k] = c at *
      by_cases h34 : c.toNat = 34
      · have h34I : (c.toNat : Int) = 34 := by omega
        have hcv := conv_own' HK.out rfl
        rw [rt_end h34] at HT
        go_wp2_with fail
        refine bodyPost_ret (v := .tuple #[.string (St acc), .int .i64 ((k : Int) + 1), .bool (decide ((acc.length : Int) ≤ 64))]) (by simp [results, Try.results50, go_sem]) rfl ⟨⟨acc, (k : Int) + 1, ?_, ?_⟩, HB.out⟩
        · rw [← HT.out]
          by_cases h64 : acc.length ≤ 64
          · rw [if_pos h64, decide_eq_true (show (acc.length : Int) ≤ 64 by omega)]; rfl
          · rw [if_neg h64, decide_eq_false (show ¬ (acc.length : Int) ≤ 64 by omega)]; rfl
        · intro b n hbn
          rw [← HT.out] at hbn
          split at hbn
          · cases hbn; exact ⟨rfl, by simp⟩
          · cases hbn
      · have h34I : ¬ (c.toNat : Int) = 34 := by omega
        by_cases h92 : c.toNat = 92
        · have h92I : (c.toNat : Int) = 92 := by omega
          by_cases hlt2 : k + 1 < l.length
          · have hi2 := idx l (k + 1) hlt2
            simp only [Int.natCast_add, Int.natCast_one] at hi2
            have hk2 : ¬ (l.length : Int) ≤ (k : Int) + 1 := by omega
            rw [drop_at hlt2] at HT
            generalize l[k + 1] = d at *
            cases hn : nSl d with
            | true =>
              rw [rt_sl1 h92 hn] at HT
              simp [nSl] at hn
              rcases hn with hn | hn
              · have hnI : (d.toNat : Int) = 34 := by omega
                go_wp2_with (at_builtin; refine app1 rfl _ _ rfl rfl (HK.out.alloc _) rfl (alloc_cell _ _ _) rfl (by have := HL.out; omega) (by go_size) ?_; intro v1 w1 ho1 hb1; have HK1 := hid ho1; have HB1 := hid ((HB.out.alloc hsz9 _).trans hb1); clear ho1 hb1)
                go_roundw
                case rel =>
                  exact ⟨k + 2, acc ++ [d], by omega, by go_num, by show _ ≤ _; simp; have := HL.out; omega, HT.out, own_cast HK1.out (by simp) (by simp [bytesV, hn]), HB1.out⟩
                case measure => simp [intOf]; omega
              · have hnI : (d.toNat : Int) = 92 := by omega
                go_wp2_with (at_builtin; refine app1 rfl _ _ rfl rfl (HK.out.alloc _) rfl (alloc_cell _ _ _) rfl (by have := HL.out; omega) (by go_size) ?_; intro v1 w1 ho1 hb1; have HK1 := hid ho1; have HB1 := hid ((HB.out.alloc hsz9 _).trans hb1); clear ho1 hb1)
                go_roundw
                case rel =>
                  exact ⟨k + 2, acc ++ [d], by omega, by go_num, by show _ ≤ _; simp; have := HL.out; omega, HT.out, own_cast HK1.out (by simp) (by simp [bytesV, hn]), HB1.out⟩
                case measure => simp [intOf]; omega
            | false =>
              rw [rt_sl2 h92 hn] at HT
              simp [nSl] at hn
              have hn1 : ¬ (d.toNat : Int) = 34 := by omega
              have hn2 : ¬ (d.toNat : Int) = 92 := by omega
              have hb1 : ((d.toNat : Int) != 34) = true := bne_iff_ne.2 hn1
              have hb2 : ((d.toNat : Int) != 92) = true := bne_iff_ne.2 hn2
              go_wp2_with fail
              refine bodyPost_ret (v := .tuple #[.string ⟨#[]⟩, .int .i64 0, .bool false]) (by simp [results, Try.results50, go_sem]) rfl ⟨⟨[], 0, ?_, ?_⟩, HB.out⟩
              · rw [← HT.out]; rfl
              · intro b n hbn; rw [← HT.out] at hbn; cases hbn
          · have hk2 : (l.length : Int) ≤ (k : Int) + 1 := by omega
            rw [show l.drop (k + 1) = [] from List.drop_of_length_le (by omega), rt_sl0 h34] at HT
            go_wp2_with fail
            refine bodyPost_ret (v := .tuple #[.string ⟨#[]⟩, .int .i64 0, .bool false]) (by simp [results, Try.results50, go_sem]) rfl ⟨⟨[], 0, ?_, ?_⟩, HB.out⟩
            · rw [← HT.out]; rfl
            · intro b n hbn; rw [← HT.out] at hbn; cases hbn
        · have h92I : ¬ (c.toNat : Int) = 92 := by omega
          rw [rt_app h34 h92] at HT
          go_wp2_with (at_builtin; refine app1 rfl _ _ rfl rfl (HK.out.alloc _) rfl (alloc_cell _ _ _) rfl (by have := HL.out; omega) (by go_size) ?_; intro v1 w1 ho1 hb1; have HK1 := hid ho1; have HB1 := hid ((HB.out.alloc hsz9 _).trans hb1); clear ho1 hb1)
          go_roundw
          case rel =>
            exact ⟨k + 1, acc ++ [c], by omega, by go_num, by show _ ≤ _; simp; have := HL.out; omega, HT.out, own_cast HK1.out (by simp) (by simp [bytesV]), HB1.out⟩
          case measure => simp [intOf]; omega
    · rw [List.drop_of_length_le (by omega)] at HT
      have HT2 := hid (show none = R from HT.out)
      go_wp2_with fail
      refine bodyPost_ret (v := .tuple #[.string ⟨#[]⟩, .int .i64 0, .bool false]) (by simp [results, Try.results50, go_sem]) rfl ⟨⟨[], 0, ?_, ?_⟩, HB.out⟩
      · rw [← HT2.out]; rfl
      · intro b n hbn; rw [← HT2.out] at hbn; cases hbn
end Go.Proofs.Ytjekpclbedbaoaa
namespace Go.Proofs.Ytjekpclbedbaoaa
open Go.RowKit
theorem rLe_any (c : UInt8) (w : World) : Calls Try.prog 48 #[.int .u8 (c.toNat : Int)] w fun e w' => e = .returned (.bool (isLe c)) ∧ w' = w := by
  go_enter Try.func48, Try.ntmps48
  go_wp2
  all_goals (go_ret; refine ⟨?_, rfl⟩; refine congrArg Ending.returned (congrArg Value.bool (Bool.eq_iff_iff.2 ?_)); simp [isLe]; try omega)
theorem rDg_any (c : UInt8) (w : World) : Calls Try.prog 51 #[.int .u8 (c.toNat : Int)] w fun e w' => e = .returned (.bool (isDg c)) ∧ w' = w := by
  go_enter Try.func51, Try.ntmps51
  go_wp2
  all_goals (go_ret; refine ⟨?_, rfl⟩; refine congrArg Ending.returned (congrArg Value.bool (Bool.eq_iff_iff.2 ?_)); simp [isDg]; try omega)
theorem rWd_any (c : UInt8) (w : World) : Calls Try.prog 49 #[.int .u8 (c.toNat : Int)] w fun e w' => e = .returned (.bool (isWd c)) ∧ w' = w := by
  go_enter Try.func49, Try.ntmps49
  go_wp2
  all_goals (go_ret; refine ⟨?_, rfl⟩; refine congrArg Ending.returned (congrArg Value.bool (Bool.eq_iff_iff.2 ?_)); simp [isWd]; try omega)
end Go.Proofs.Ytjekpclbedbaoaa
namespace Go.Proofs.Ytjekpclbedbaoaa
open Go.RowKit Go.Joins
/-- A token, or none: then 0 stands beside whatever it is. -/
def OneP (x : Option (Tk × Nat)) (w : World) (e : Ending) (w' : World) : Prop :=
  (∃ (k : Int) (s : List UInt8) (n a m : Int), e = .returned (.tuple #[TV k s n a, .int .i64 m]) ∧ (x = none → m = 0) ∧ ∀ t q, x = some (t, q) → k = (t.kind : Int) ∧ s = t.s ∧ n = t.n ∧ a = (t.at_ : Int) ∧ m = (q : Int)) ∧ Below w.heap.size w w'
set_option maxRecDepth 100000 in
set_option maxHeartbeats 1000000 in
theorem rone_w (l : List UInt8) (hl : (l.length : Int) ≤ 2048) (h1 : 0 < l.length) (hc : isLe l[0] = true) (w : World) : Calls Try.prog 29 #[.string (St l)] w (OneP (wordS l) w) := by
  have hsz := St_size l
  have h1I : 0 < (l.length : Int) := by omega
  have hi0 := idx l 0 h1
  simp only [Int.natCast_zero] at hi0
  generalize l[0] = c at *
  go_enter Try.func29, Try.ntmps29
  go_wp2_with (go_at_call 48; refine (rLe_any _ _).mono ?_; rintro e w2 ⟨rfl, hw2⟩; replace hw2 := hw2.symm; subst hw2; rw [hc])
  go_loopw [4] (fun i wr => ∃ k : Nat, (k : Int) ≤ l.length ∧ i = .int .i64 k ∧ Hid (∀ i (h : i < l.length), i < k → isWd l[i] = true) ∧ w.alloc (.cells z31 67) = wr) (fun i _ => l.length - (intOf i).toNat)
  case atStart => exact ⟨0, by omega, rfl, fun i h hi => by omega, rfl⟩
  case round =>
    obtain ⟨k, hk, rfl, HA, hw⟩ := hrel
    have hend : (k = l.length ∨ ∃ h : k < l.length, isWd l[k] = false) ∨ ∃ h : k < l.length, isWd l[k] = true := by
      by_cases h : k < l.length
      · cases hx : isWd l[k] with
        | true => exact .inr ⟨h, hx⟩
        | false => exact .inl (.inr ⟨h, hx⟩)
      · exact .inl (.inl (by omega))
    rcases hend with hend | ⟨hlt, hx⟩
    · have HSp := hid (spanN_is isWd l k (by omega) HA.out hend)
      have HN := hid (@wordS_no l)
      have HY := hid (@wordS_yes l)
      rw [HSp.out] at HN HY
      have hs := slT l k (by omega)
      subst hw
      by_cases h24 : 24 < k
      · have h24I : ¬ (k : Int) ≤ 24 := by omega
        have HZ := hid (HN.out h24)
        clear HN HY h24
        rcases hend with hend | ⟨hlt, hx⟩
        · have hkI : ¬ (k : Int) < l.length := by omega
          clear hend
          go_wp2_with fail
          refine bodyPost_ret (v := .tuple #[TV 0 [] 0 0, .int .i64 0]) (by simp [results, Try.results29, go_sem]; rfl) rfl ⟨⟨0, [], 0, 0, 0, rfl, fun _ => rfl, fun t q h => ?_⟩, by go_grown⟩
          rw [HZ.out] at h; cases h
        · have hkI : (k : Int) < l.length := by omega
          have hi := idx l k hlt
          have HX := hid hx
          generalize l[k] = d at *
          go_wp2_with (go_at_call 49; refine (rWd_any _ _).mono ?_; rintro e w3 ⟨rfl, hw3⟩; replace hw3 := hw3.symm; subst hw3; rw [HX.out])
          refine bodyPost_ret (v := .tuple #[TV 0 [] 0 0, .int .i64 0]) (by simp [results, Try.results29, go_sem]; rfl) rfl ⟨⟨0, [], 0, 0, 0, rfl, fun _ => rfl, fun t q h => ?_⟩, by go_grown⟩
          rw [HZ.out] at h; cases h
      · have h24I : (k : Int) ≤ 24 := by omega
        have HZ := hid (HY.out h24)
        clear HN HY h24
        rcases hend with hend | ⟨hlt, hx⟩
        · have hkI : ¬ (k : Int) < l.length := by omega
          clear hend
          go_wp2_with fail
          refine bodyPost_ret (v := .tuple #[TV 1 (l.take k) 0 0, .int .i64 (k : Int)]) (by simp [results, Try.results29, go_sem]) rfl ⟨⟨1, l.take k, 0, 0, (k : Int), rfl, fun h => ?_, fun t q h => ?_⟩, by go_grown⟩
          · rw [HZ.out] at h; cases h
          · rw [HZ.out] at h; cases h; exact ⟨rfl, rfl, rfl, rfl, rfl⟩
        · have hkI : (k : Int) < l.length := by omega
          have hi := idx l k hlt
          have HX := hid hx
          generalize l[k] = d at *
          go_wp2_with (go_at_call 49; refine (rWd_any _ _).mono ?_; rintro e w3 ⟨rfl, hw3⟩; replace hw3 := hw3.symm; subst hw3; rw [HX.out])
          refine bodyPost_ret (v := .tuple #[TV 1 (l.take k) 0 0, .int .i64 (k : Int)]) (by simp [results, Try.results29, go_sem]) rfl ⟨⟨1, l.take k, 0, 0, (k : Int), rfl, fun h => ?_, fun t q h => ?_⟩, by go_grown⟩
          · rw [HZ.out] at h; cases h
          · rw [HZ.out] at h; cases h; exact ⟨rfl, rfl, rfl, rfl, rfl⟩
    · have hkI : (k : Int) < l.length := by omega
      have hi := idx l k hlt
      have HX := hid hx
      go_wp2_with (go_at_call 49; refine (rWd_any _ _).mono ?_; rintro e w3 ⟨rfl, hw3⟩; replace hw3 := hw3.symm; subst hw3; rw [HX.out])
      go_roundw
      case rel =>
        refine ⟨k + 1, by omega, by go_num, ?_, hw⟩
        intro i h hik
        rcases Nat.lt_or_ge i k with h1 | h1
        · exact HA.out i h h1
        · obtain rfl : i = k := by omega
          exact HX.out
      case measure => simp [intOf]; omega
theorem rLe_34 (w : World) : Calls Try.prog 48 #[.int .u8 34] w fun e w' => e = .returned (.bool false) ∧ w' = w := rLe_any 34 w
theorem text_rtx (l : List UInt8) : textS l = (rtx [] 1 l.tail).map (fun x => (⟨3, x.1, 0, 0⟩, x.2)) := by
  rw [show (1 : Nat) = 0 + 1 from rfl, rtx_eq l.tail.length l.tail [] 0 (Nat.le_refl _)]
  unfold textS
  cases txtF [] false 0 l.tail <;> rfl
set_option maxRecDepth 100000 in
set_option maxHeartbeats 1000000 in
theorem rone_t (l : List UInt8) (hl : (l.length : Int) ≤ 2048) (h1 : 0 < l.length) (hc : l[0].toNat = 34) (w : World) : Calls Try.prog 29 #[.string (St l)] w (OneP (textS l) w) := by
  have hsz := St_size l
  have h1I : 0 < (l.length : Int) := by omega
  have hi0 := idx l 0 h1
  simp only [Int.natCast_zero] at hi0
  rw [hc] at hi0
  simp only [show ((34 : Nat) : Int) = 34 from rfl] at hi0
  have HRT := hid (fun w => rtext_any l hl h1 w)
  have HTX := hid (text_rtx l)
  cases hr : rtx [] 1 l.tail with
  | none =>
    rw [hr] at HRT HTX
    have HZ := hid (show textS l = none from HTX.out)
    clear hc hr HTX
    go_enter Try.func29, Try.ntmps29
    go_wp2_with (first
      | (go_at_call 48; refine (rLe_34 _).mono ?_; rintro e w2 ⟨rfl, hw2⟩; replace hw2 := hw2.symm; subst hw2)
      | (go_at_call 50; refine (HRT.out _).mono ?_; unfold RTextP; rintro e w3 ⟨⟨s, kk, rfl, hs⟩, hb⟩; have HKB := hid (box_keep hb); have hfz := HKB.out.1.frozen; have hcs := HKB.out.1.cells; obtain ⟨hc0, hc1, hc2, hc3⟩ := hcs; clear hb; clear hs))
    have hE := HKB.out.1.set4 (.int .i64 0) (.string ⟨#[]⟩) (.int .i64 0) (.int .i64 0)
    obtain ⟨d0, d1, d2, d3⟩ := hE.cells
    have HBB := hid (below_set4 HKB.out.2 (Nat.le_refl _) (.int .i64 0) (.string ⟨#[]⟩) (.int .i64 0) (.int .i64 0))
    refine bodyPost_ret (v := .tuple #[TV 0 [] 0 0, .int .i64 0]) ?_ rfl ⟨⟨0, [], 0, 0, 0, rfl, ?_, ?_⟩, HBB.out⟩
    · clear hc0 hc1 hc2 hc3
      simp [results, Try.results29, go_sem, d0, d1, d2, d3]; rfl
    · exact fun _ => rfl
    · intro t q h; rw [HZ.out] at h; cases h
  | some x =>
    obtain ⟨b, n⟩ := x
    rw [hr] at HRT HTX
    have HZ := hid (show textS l = some (⟨3, b, 0, 0⟩, n) from HTX.out)
    clear hc hr HTX
    go_enter Try.func29, Try.ntmps29
    go_wp2_with (first
      | (go_at_call 48; refine (rLe_34 _).mono ?_; rintro e w2 ⟨rfl, hw2⟩; replace hw2 := hw2.symm; subst hw2)
      | (go_at_call 50; refine (HRT.out _).mono ?_; unfold RTextP; rintro e w3 ⟨⟨s, kk, rfl, hs⟩, hb⟩; obtain ⟨rfl, rfl⟩ := hs b n rfl; have HKB := hid (box_keep hb); have hfz := HKB.out.1.frozen; have hcs := HKB.out.1.cells; obtain ⟨hc0, hc1, hc2, hc3⟩ := hcs; clear hb))
    have hE := HKB.out.1.set4 (.int .i64 3) (.string (St s)) (.int .i64 0) (.int .i64 0)
    obtain ⟨d0, d1, d2, d3⟩ := hE.cells
    have HBB := hid (below_set4 HKB.out.2 (Nat.le_refl _) (.int .i64 3) (.string (St s)) (.int .i64 0) (.int .i64 0))
    refine bodyPost_ret (v := .tuple #[TV 3 s 0 0, .int .i64 (n : Int)]) ?_ rfl ⟨⟨3, s, 0, 0, (n : Int), rfl, ?_, ?_⟩, HBB.out⟩
    · clear hc0 hc1 hc2 hc3
      simp [results, Try.results29, go_sem, d0, d1, d2, d3]
    · intro h; rw [HZ.out] at h; cases h
    · intro t q h; rw [HZ.out] at h; cases h; exact ⟨rfl, rfl, rfl, rfl, rfl⟩
theorem sign_45 {l : List UInt8} {r : List UInt8} (h : l = 45 :: r) : signS l = none := by
  subst h
  unfold signS
  rw [List.find?_eq_none.2 ?_]
  intro x hx
  simp only [signsL, List.mem_cons, List.not_mem_nil, or_false] at hx
  rcases hx with h | h | h | h | h | h | h | h | h | h | h <;> subst h <;> simp [List.isPrefixOf]
/-- What is neither word nor text nor number, as the reference asks. -/
def Other (l : List UInt8) : Prop := ∀ h : 0 < l.length, isLe l[0] = false ∧ ¬ l[0].toNat = 34 ∧ isDg l[0] = false ∧ (l[0].toNat = 45 → ∀ h2 : 1 < l.length, isDg l[1] = false)
theorem first_other {l : List UInt8} (h1 : 0 < l.length) (h : Other l) : firstS l = signS l := by
  obtain ⟨a1, a2, a3, a4⟩ := h h1
  by_cases h45 : l[0].toNat = 45
  · rw [firstS_n h1 a1 (.inl h45)]
    obtain ⟨c, r, rfl⟩ : ∃ c r, l = c :: r := by
      cases l with
      | nil => simp at h1
      | cons c r => exact ⟨c, r, rfl⟩
    have hc : c = 45 := UInt8.toNat_inj.1 h45
    subst hc
    rw [sign_45 rfl]
    apply numS_a
    show spanN isDg r = 0
    cases r with
    | nil => rfl
    | cons d r =>
      have := a4 rfl (by simp)
      have hd : isDg d = false := this
      simp [spanN, hd]
  · exact firstS_s h1 a1 h45 a3 a2
end Go.Proofs.Ytjekpclbedbaoaa
namespace Go.Proofs.Ytjekpclbedbaoaa
open Go.RowKit Go.Joins
theorem rLe_45 (w : World) : Calls Try.prog 48 #[.int .u8 45] w fun e w' => e = .returned (.bool false) ∧ w' = w := rLe_any 45 w
theorem rDg_45 (w : World) : Calls Try.prog 51 #[.int .u8 45] w fun e w' => e = .returned (.bool false) ∧ w' = w := rDg_any 45 w
theorem sgn_forms (l : List UInt8) : (signS l = none ∧ sgnOf l = []) ∨ signS l = some (⟨4, sgnOf l, 0, 0⟩, (sgnOf l).length) := by
  cases h : signS l with
  | none => exact .inl ⟨rfl, sgnOf_no h⟩
  | some x =>
    right
    have h0 := h
    unfold signS at h
    split at h
    · cases h; rw [sgnOf_yes h0]
    · cases h
set_option maxRecDepth 100000 in
set_option maxHeartbeats 1000000 in
theorem rone_s (l : List UInt8) (hl : (l.length : Int) ≤ 2048) (h1 : 0 < l.length) (hO : Other l) (w : World) : Calls Try.prog 29 #[.string (St l)] w (OneP (signS l) w) := by
  have hsz := St_size l
  have h1I : 0 < (l.length : Int) := by omega
  have hi0 := idx l 0 h1
  simp only [Int.natCast_zero] at hi0
  obtain ⟨a1, a2, a3, a4⟩ := hO h1
  have HRS := hid (fun w => rsign_any l (by omega) h1 w)
  have HF := hid (sgn_forms l)
  generalize sgnOf l = x at *
  have hsx := St_size x
  by_cases h45 : l[0].toNat = 45
  · have A4 := hid (a4 h45)
    rw [h45] at hi0
    simp only [show ((45 : Nat) : Int) = 45 from rfl] at hi0
    clear a1 a2 a3 a4 h45
    by_cases hlt : 1 < l.length
    · have hltI : 1 < (l.length : Int) := by omega
      have hi1 := idx l 1 hlt
      simp only [show ((1 : Nat) : Int) = 1 from rfl] at hi1
      have HD := hid (A4.out hlt)
      clear A4
      generalize l[1] = d at *
      have M1 : Hid True := hid trivial
      go_enter Try.func29, Try.ntmps29
      go_wp2_with (first
        | (go_at_call 48; refine (rLe_45 _).mono ?_; rintro e w2 ⟨rfl, hw2⟩; replace hw2 := hw2.symm; subst hw2)
        | (go_at_call 51; clear M1; refine (rDg_45 _).mono ?_; rintro e w2 ⟨rfl, hw2⟩; replace hw2 := hw2.symm; subst hw2)
        | (go_at_call 51; refine (rDg_any _ _).mono ?_; rintro e w2 ⟨rfl, hw2⟩; replace hw2 := hw2.symm; subst hw2; rw [HD.out])
        | (go_at_call 53; refine (HRS.out _).mono ?_; rintro e w3 ⟨rfl, hb⟩; have HKB := hid (box_keep hb); have hfz := HKB.out.1.frozen; have hcs := HKB.out.1.cells; obtain ⟨hc0, hc1, hc2, hc3⟩ := hcs; clear hb))
      have hE := HKB.out.1.set4 (.int .i64 4) (.string (St x)) (.int .i64 0) (.int .i64 0)
      obtain ⟨d0, d1, d2, d3⟩ := hE.cells
      have HBB := hid (below_set4 HKB.out.2 (Nat.le_refl _) (.int .i64 4) (.string (St x)) (.int .i64 0) (.int .i64 0))
      refine bodyPost_ret (v := .tuple #[TV 4 x 0 0, .int .i64 (x.length : Int)]) ?_ rfl ⟨⟨4, x, 0, 0, (x.length : Int), rfl, ?_, ?_⟩, HBB.out⟩
      · clear hc0 hc1 hc2 hc3
        simp [results, Try.results29, go_sem, d0, d1, d2, d3]
      · intro h
        rcases HF.out with ⟨-, h2⟩ | h2
        · rw [h2]; rfl
        · rw [h2] at h; cases h
      · intro t q h
        rcases HF.out with ⟨h2, -⟩ | h2
        · rw [h2] at h; cases h
        · rw [h2] at h; cases h; exact ⟨rfl, rfl, rfl, rfl, rfl⟩
    · have hltI : ¬ 1 < (l.length : Int) := by omega
      clear A4
      go_enter Try.func29, Try.ntmps29
      go_wp2_with (first
        | (go_at_call 48; refine (rLe_45 _).mono ?_; rintro e w2 ⟨rfl, hw2⟩; replace hw2 := hw2.symm; subst hw2)
        | (go_at_call 51; refine (rDg_45 _).mono ?_; rintro e w2 ⟨rfl, hw2⟩; replace hw2 := hw2.symm; subst hw2)
        | (go_at_call 53; refine (HRS.out _).mono ?_; rintro e w3 ⟨rfl, hb⟩; have HKB := hid (box_keep hb); have hfz := HKB.out.1.frozen; have hcs := HKB.out.1.cells; obtain ⟨hc0, hc1, hc2, hc3⟩ := hcs; clear hb))
      have hE := HKB.out.1.set4 (.int .i64 4) (.string (St x)) (.int .i64 0) (.int .i64 0)
      obtain ⟨d0, d1, d2, d3⟩ := hE.cells
      have HBB := hid (below_set4 HKB.out.2 (Nat.le_refl _) (.int .i64 4) (.string (St x)) (.int .i64 0) (.int .i64 0))
      refine bodyPost_ret (v := .tuple #[TV 4 x 0 0, .int .i64 (x.length : Int)]) ?_ rfl ⟨⟨4, x, 0, 0, (x.length : Int), rfl, ?_, ?_⟩, HBB.out⟩
      · clear hc0 hc1 hc2 hc3
        simp [results, Try.results29, go_sem, d0, d1, d2, d3]
      · intro h
        rcases HF.out with ⟨-, h2⟩ | h2
        · rw [h2]; rfl
        · rw [h2] at h; cases h
      · intro t q h
        rcases HF.out with ⟨h2, -⟩ | h2
        · rw [h2] at h; cases h
        · rw [h2] at h; cases h; exact ⟨rfl, rfl, rfl, rfl, rfl⟩
  · have h45I : ¬ ((l[0].toNat : Nat) : Int) = 45 := by omega
    have h34I : ¬ ((l[0].toNat : Nat) : Int) = 34 := by omega
    have b45 : (((l[0].toNat : Nat) : Int) == 45) = false := beq_eq_false_iff_ne.2 h45I
    clear a2 a4 h45
    generalize l[0] = c at *
    go_enter Try.func29, Try.ntmps29
    go_wp2_with (first
      | (go_at_call 48; refine (rLe_any _ _).mono ?_; rintro e w2 ⟨rfl, hw2⟩; replace hw2 := hw2.symm; subst hw2; rw [a1])
      | (go_at_call 51; refine (rDg_any _ _).mono ?_; rintro e w2 ⟨rfl, hw2⟩; replace hw2 := hw2.symm; subst hw2; rw [a3])
      | (go_at_call 53; refine (HRS.out _).mono ?_; rintro e w3 ⟨rfl, hb⟩; have HKB := hid (box_keep hb); have hfz := HKB.out.1.frozen; have hcs := HKB.out.1.cells; obtain ⟨hc0, hc1, hc2, hc3⟩ := hcs; clear hb))
    have hE := HKB.out.1.set4 (.int .i64 4) (.string (St x)) (.int .i64 0) (.int .i64 0)
    obtain ⟨d0, d1, d2, d3⟩ := hE.cells
    have HBB := hid (below_set4 HKB.out.2 (Nat.le_refl _) (.int .i64 4) (.string (St x)) (.int .i64 0) (.int .i64 0))
    refine bodyPost_ret (v := .tuple #[TV 4 x 0 0, .int .i64 (x.length : Int)]) ?_ rfl ⟨⟨4, x, 0, 0, (x.length : Int), rfl, ?_, ?_⟩, HBB.out⟩
    · clear hc0 hc1 hc2 hc3
      simp [results, Try.results29, go_sem, d0, d1, d2, d3]
    · intro h
      rcases HF.out with ⟨-, h2⟩ | h2
      · rw [h2]; rfl
      · rw [h2] at h; cases h
    · intro t q h
      rcases HF.out with ⟨h2, -⟩ | h2
      · rw [h2] at h; cases h
      · rw [h2] at h; cases h; exact ⟨rfl, rfl, rfl, rfl, rfl⟩
end Go.Proofs.Ytjekpclbedbaoaa
namespace Go.Proofs.Ytjekpclbedbaoaa
open Go.RowKit Go.Joins
theorem ten19 (E : List UInt8) (c : UInt8) (t : List UInt8) (hE : E = c :: t) (hd : isDg c = true) (hc : ¬ c.toNat = 48) (hl : 19 < E.length) : 9223372036854775808 < dval E := by
  subst hE
  unfold dval
  rw [dvalF_cons]
  have h1 := dvalF_ge t (dstep 0 c)
  have h2 : 1 ≤ dstep 0 c := by unfold dstep; simp [isDg] at hd; omega
  have h3 : 10 ^ 19 ≤ 10 ^ t.length := Nat.pow_le_pow_right (by decide) (by simp at hl; omega)
  have h4 : 1 * 10 ^ t.length ≤ dstep 0 c * 10 ^ t.length := Nat.mul_le_mul_right _ h2
  have h5 : (10 : Nat) ^ 19 = 10000000000000000000 := by decide
  omega
/-- Whether the reference refuses digits. -/
def badN (l : List UInt8) (m : Nat) : Bool :=
  (decide ((digitsOf l).head? = some 48) && decide (1 < m + sgn1 l)) || decide (19 < m) || !(decide (spanN isWd (digitsOf l) = m))
theorem num_ref {l : List UInt8} {m : Nat} (hm : spanN isDg (digitsOf l) = m) (h0 : 0 < m) :
    numS l = if badN l m then none else (numV (neg1 l) (dval ((digitsOf l).take m))).map (fun v => (⟨2, [], v, 0⟩, m + sgn1 l)) := by
  unfold numS badN
  rw [hm]
  by_cases h1 : spanN isWd (digitsOf l) = m
  · rw [if_neg (by omega), h1]
    by_cases h2 : (digitsOf l).head? = some 48 ∧ 1 < m + sgn1 l
    · rw [if_pos h2]; simp [h2.1, h2.2]
    · rw [if_neg h2]
      by_cases h3 : 19 < m
      · have hb : numV (neg1 l) (dval ((digitsOf l).take m)) = none := by
          have hle := spanN_le isDg (digitsOf l)
          have ht := spanN_take isDg (digitsOf l)
          rw [hm] at hle ht
          generalize digitsOf l = D at *
          obtain ⟨c, t, rfl⟩ : ∃ c t, D = c :: t := by
            cases D with
            | nil => simp at hle; omega
            | cons c t => exact ⟨c, t, rfl⟩
          obtain ⟨m', rfl⟩ : ∃ m', m = m' + 1 := ⟨m - 1, by omega⟩
          refine numV_no _ _ (ten19 _ c (t.take m') rfl (ht c (by simp)) ?_ (by simp at hle ⊢; omega))
          intro h48
          apply h2
          have : c = 48 := UInt8.toNat_inj.1 h48
          subst this
          exact ⟨rfl, by omega⟩
        rw [hb]; simp [h3]
      · have h2' : (decide ((digitsOf l).head? = some 48) && decide (1 < m + sgn1 l)) = false := by
          apply Bool.eq_false_iff.2; intro h; simp at h; exact h2 h
        rw [h2']; simp [h3]
  · rw [if_pos (by right; omega)]; simp [h1]
theorem wd_stop (D : List UInt8) (m : Nat) (hle : m ≤ D.length) (hd : ∀ i (h : i < D.length), i < m → isDg D[i] = true) :
    decide (spanN isWd D = m) = !(decide (m < D.length) && isWd (D.getD m 0)) := by
  by_cases h : m < D.length
  · have hg : D.getD m 0 = D[m] := by rw [List.getD_eq_getElem?_getD, List.getElem?_eq_getElem h]; rfl
    rw [hg, decide_eq_true h]
    cases hx : isWd D[m] with
    | false =>
      rw [decide_eq_true (spanN_is isWd D m hle (fun i hi hm => isDg_isWd (hd i hi hm)) (.inr ⟨h, hx⟩))]; rfl
    | true =>
      have : ¬ spanN isWd D = m := fun e => by
        have := spanN_stop isWd D (by omega)
        simp only [e] at this
        rw [hx] at this; cases this
      simp [this]
  · rw [decide_eq_false h, decide_eq_true (spanN_is isWd D m hle (fun i hi hm => isDg_isWd (hd i hi hm)) (.inl (by omega)))]; rfl
end Go.Proofs.Ytjekpclbedbaoaa
namespace Go.Proofs.Ytjekpclbedbaoaa
open Go.RowKit Go.Joins
theorem getD_at {l : List UInt8} {k : Nat} (h : k < l.length) : l.getD k 0 = l[k] := by
  rw [List.getD_eq_getElem?_getD, List.getElem?_eq_getElem h]; rfl
set_option maxRecDepth 100000 in
set_option maxHeartbeats 1000000 in
theorem rone_nA (l : List UInt8) (hl : (l.length : Int) ≤ 2048) (h1 : 0 < l.length) (hd0 : isDg l[0] = true) (w : World) : Calls Try.prog 29 #[.string (St l)] w (OneP (numS l) w) := by
  have hsz := St_size l
  have h1I : 0 < (l.length : Int) := by omega
  have hi0 := idx l 0 h1
  simp only [Int.natCast_zero] at hi0
  have hcd := hd0
  simp [isDg] at hcd
  have hle0 : isLe l[0] = false := by simp [isLe]; omega
  have hng : neg1 l = false := by
    cases l with
    | nil => rfl
    | cons c r => simp [neg1]; intro e; subst e; simp at hcd
  have hsg : sgn1 l = 0 := by unfold sgn1; rw [hng]; rfl
  have hdg : digitsOf l = l := by unfold digitsOf; rw [hng]; rfl
  have hhd : l.head? = some l[0] := head_idx h1
  have HD0 := hid hd0
  have h34I : ¬ ((l[0].toNat : Nat) : Int) = 34 := by omega
  have h45I : ¬ ((l[0].toNat : Nat) : Int) = 45 := by omega
  have b45 : (((l[0].toNat : Nat) : Int) == 45) = false := beq_eq_false_iff_ne.2 h45I
  have HNR := hid (fun m hm h0 => @num_ref l m hm h0)
  unfold badN at HNR
  rw [hsg, hdg, hng, hhd] at HNR
  have HTK := hid (show ∀ k (h : 0 < (l.take k).length), (l.take k)[0] = l[0] from fun k h => by rw [List.getElem_take])
  have HF0 := hid (show ∀ i (h : i < l.length), i < 1 → isDg l[i] = true from fun i h hi => by
    obtain rfl : i = 0 := by omega
    exact hd0)
  generalize hc : l[0] = c at *
  clear hcd hng hsg hdg hhd hd0
  go_enter Try.func29, Try.ntmps29
  go_wp2_with (first
    | (go_at_call 48; refine (rLe_any _ _).mono ?_; rintro e w2 ⟨rfl, hw2⟩; replace hw2 := hw2.symm; subst hw2; rw [hle0])
    | (go_at_call 51; refine (rDg_any _ _).mono ?_; rintro e w2 ⟨rfl, hw2⟩; replace hw2 := hw2.symm; subst hw2; rw [HD0.out]))
  go_loopw [4] (fun i wr => ∃ k : Nat, (k : Int) ≤ l.length ∧ (1 : Int) ≤ k ∧ i = .int .i64 k ∧ Hid (∀ i (h : i < l.length), i < k → isDg l[i] = true) ∧ w.alloc (.cells z31 67) = wr) (fun i _ => l.length - (intOf i).toNat)
  case atStart => exact ⟨1, by omega, by omega, rfl, HF0.out, rfl⟩
  case round =>
    obtain ⟨k, hk, hk1, rfl, HA, hw⟩ := hrel
    subst hw
    obtain ⟨b, hb⟩ : ∃ b, b = (decide (k < l.length) && isDg (l.getD k 0)) := ⟨_, rfl⟩
    have HBB := hid hb
    clear hb
    go_upto_region 15 with fail
    go_cut [84] from 75 to 84 (fun v wx => v = .bool b ∧ wx = w.alloc (.cells z31 67))
    case first =>
      by_cases hlt : k < l.length
      · have hkI : (k : Int) < l.length := by omega
        have hi := idx l k hlt
        rw [← getD_at hlt] at hi
        have hb : b = isDg (l.getD k 0) := by rw [HBB.out, decide_eq_true hlt]; rfl
        generalize l.getD k 0 = d at *
        subst hb
        go_wp2_with (go_at_call 51; refine (rDg_any _ _).mono ?_; rintro e w3 ⟨rfl, hw3⟩; replace hw3 := hw3.symm; subst hw3)
        go_meet
        exact ⟨rfl, rfl⟩
      · have hkI : ¬ (k : Int) < l.length := by omega
        have hb : b = false := by rw [HBB.out, decide_eq_false hlt]; rfl
        subst hb
        go_wp2_with fail
        go_meet
        exact ⟨rfl, rfl⟩
    case rest =>
      obtain ⟨hu, hwc⟩ := hcut
      subst hu
      subst hwc
      cases b with
      | true =>
        have hlt : k < l.length := by
          apply Classical.byContradiction; intro h
          have := HBB.out; rw [decide_eq_false h] at this; cases this
        have hdk : isDg l[k] = true := by
          have := HBB.out; rw [decide_eq_true hlt, getD_at hlt] at this; simpa using this.symm
        have HDK := hid hdk
        clear hdk
        go_wp2_with fail
        go_roundw
        case rel =>
          refine ⟨k + 1, by omega, by omega, by go_num, ?_, by first | rfl | trivial⟩
          intro i h hik
          rcases Nat.lt_or_ge i k with h9 | h9
          · exact HA.out i h h9
          · obtain rfl : i = k := by omega
            exact HDK.out
        case measure => simp [intOf]; omega
      | false =>
        have hstop : k = l.length ∨ ∃ h : k < l.length, isDg l[k] = false := by
          by_cases hlt : k < l.length
          · right
            refine ⟨hlt, ?_⟩
            have := HBB.out; rw [decide_eq_true hlt, getD_at hlt] at this; simpa using this.symm
          · left; omega
        have HM := spanN_is isDg l k (by omega) HA.out hstop
        have HR := HNR.out k HM (by omega)
        rw [wd_stop l k (by omega) HA.out] at HR
        have hall := spanN_take isDg l
        rw [HM] at hall
        have HRN := hid (fun w => rnum_any false (l.take k) hall (by rw [List.length_take]; omega) (by rw [List.length_take]; omega) w)
        have hst := slT l k (by omega)
        have hsE := St_size (l.take k)
        have hEl : (l.take k).length = k := by rw [List.length_take]; omega
        have hiE := idx (l.take k) 0 (by omega)
        simp only [Int.natCast_zero] at hiE
        rw [HTK.out k (by omega)] at hiE
        rw [hEl] at hsE
        have HRN2 : Hid (∀ w, Calls Try.prog 52 #[.string (St (l.take k))] w (RNumP false (dval (l.take k)) w)) := HRN.out
        clear HRN hstop HM hall HA HBB HNR HTK hEl HF0
        generalize l.take k = E at *
        obtain ⟨nz, hnz⟩ : ∃ nz, nz = (decide (c.toNat = 48) && decide (1 < k)) := ⟨_, rfl⟩
        obtain ⟨bad, hbad⟩ : ∃ bad, bad = (nz || decide (19 < k) || (decide (k < l.length) && isWd (l.getD k 0))) := ⟨_, rfl⟩
        have HR2 := hid (show numS l = if bad then none else (numV false (dval E)).map (fun v => (⟨2, [], v, 0⟩, k)) by
          rw [HR, hbad, hnz]
          have e1 : decide ((some c : Option UInt8) = some 48) = decide (c.toNat = 48) := by
            apply decide_eq_decide.2
            constructor
            · intro h; cases h; rfl
            · intro h; rw [UInt8.toNat_inj.1 (show c.toNat = (48 : UInt8).toNat from h)]
          rw [e1, Nat.add_zero, Bool.not_not])
        have HNZ := hid hnz
        have HBAD := hid hbad
        clear HR hnz hbad
        go_upto_region 20 with fail
        go_cut [9] from 95 to 107 (fun v wx => v = .bool nz ∧ wx = w.alloc (.cells z31 67))
        case first =>
          by_cases h48 : c.toNat = 48
          · have b48 : ((c.toNat : Int) == 48) = true := beq_iff_eq.2 (by omega)
            have H48 := hid h48
            by_cases hk2 : 1 < k
            · have hk2I : 1 < (k : Int) := by omega
              have e : nz = true := by rw [HNZ.out]; simp [h48, hk2]
              clear h48
              subst e
              go_wp2_with fail
              go_meet
              exact ⟨rfl, rfl⟩
            · have hk2I : ¬ 1 < (k : Int) := by omega
              have e : nz = false := by rw [HNZ.out]; simp [hk2]
              clear h48
              subst e
              go_wp2_with fail
              go_meet
              exact ⟨rfl, rfl⟩
          · have h48I : ¬ (c.toNat : Int) = 48 := by omega
            have e : nz = false := by rw [HNZ.out]; simp [h48]
            have b48 : ((c.toNat : Int) == 48) = false := beq_eq_false_iff_ne.2 h48I
            subst e
            go_wp2_with fail
            go_meet
            exact ⟨rfl, rfl⟩
        case rest =>
          obtain ⟨hu, hwc⟩ := hcut
          subst hu
          subst hwc
          go_upto_region 21 with fail
          go_cut [125] from 108 to 125 (fun v wx => v = .bool bad ∧ wx = w.alloc (.cells z31 67))
          case first =>
            cases nz with
            | true =>
              have e : bad = true := by rw [HBAD.out]; rfl
              subst e
              go_wp2_with fail
              go_meet
              exact ⟨rfl, rfl⟩
            | false =>
              by_cases h19 : 19 < k
              · have h19I : 19 < (k : Int) := by omega
                have e : bad = true := by rw [HBAD.out]; simp [h19]
                subst e
                go_wp2_with fail
                go_meet
                exact ⟨rfl, rfl⟩
              · have h19I : ¬ 19 < (k : Int) := by omega
                by_cases hlt : k < l.length
                · have hkI : (k : Int) < l.length := by omega
                  have hi := idx l k hlt
                  rw [← getD_at hlt] at hi
                  have e : bad = isWd (l.getD k 0) := by rw [HBAD.out]; simp [h19, hlt]
                  generalize l.getD k 0 = d at *
                  subst e
                  go_wp2_with (go_at_call 49; refine (rWd_any _ _).mono ?_; rintro e w3 ⟨rfl, hw3⟩; replace hw3 := hw3.symm; subst hw3)
                  go_meet
                  exact ⟨rfl, rfl⟩
                · have hkI : ¬ (k : Int) < l.length := by omega
                  have e : bad = false := by rw [HBAD.out]; simp [h19, hlt]
                  subst e
                  go_wp2_with fail
                  go_meet
                  exact ⟨rfl, rfl⟩
          case rest =>
            obtain ⟨hu, hwc⟩ := hcut
            subst hu
            subst hwc
            cases bad with
            | true =>
              have HZ := hid (show numS l = none by rw [HR2.out]; rfl)
              go_wp2_with fail
              refine bodyPost_ret (v := .tuple #[TV 0 [] 0 0, .int .i64 0]) (by simp [results, Try.results29, go_sem]; rfl) rfl ⟨⟨0, [], 0, 0, 0, rfl, fun _ => rfl, fun t q h => ?_⟩, by go_grown⟩
              rw [HZ.out] at h; cases h
            | false =>
              have HZ := hid (show numS l = (numV false (dval E)).map (fun v => (⟨2, [], v, 0⟩, k)) by rw [HR2.out]; rfl)
              generalize dval E = v at *
              cases hv : numV false v with
              | none =>
                go_wp2_with (go_at_call 52; refine (HRN2.out _).mono ?_; unfold RNumP; rintro e w3 ⟨⟨x, rfl, hx⟩, hw3⟩; replace hw3 := hw3.symm; subst hw3; clear hx; rw [hv])
                refine bodyPost_ret (v := .tuple #[TV 0 [] 0 0, .int .i64 0]) (by simp [results, Try.results29, go_sem]; rfl) rfl ⟨⟨0, [], 0, 0, 0, rfl, fun _ => rfl, fun t q h => ?_⟩, by go_grown⟩
                rw [HZ.out, hv] at h; cases h
              | some y =>
                go_wp2_with (go_at_call 52; refine (HRN2.out _).mono ?_; unfold RNumP; rintro e w3 ⟨⟨x, rfl, hx⟩, hw3⟩; replace hw3 := hw3.symm; subst hw3; have hxy := hx y hv; subst hxy; clear hx; rw [hv])
                refine bodyPost_ret (v := .tuple #[TV 2 [] x 0, .int .i64 (k : Int)]) (by simp [results, Try.results29, go_sem]; rfl) rfl ⟨⟨2, [], x, 0, (k : Int), rfl, fun h => ?_, fun t q h => ?_⟩, by go_grown⟩
                · rw [HZ.out, hv] at h; cases h
                · rw [HZ.out, hv] at h; cases h; exact ⟨rfl, rfl, rfl, rfl, rfl⟩
end Go.Proofs.Ytjekpclbedbaoaa
