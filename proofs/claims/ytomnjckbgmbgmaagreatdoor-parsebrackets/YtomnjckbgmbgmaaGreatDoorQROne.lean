/-
  What the reference's one returns: a word, a text, a sign.
-/
import Derived.Test.YtomnjckbgmbgmaaGreatDoorQBaseR
import Derived.Test.YtomnjckbgmbgmaaGreatDoorQRText
namespace Go.Proofs.YtomnjckbgmbgmaaGreatDoor
open Go.RowKit Go.Joins
/-- A token, or none: then 0 stands beside whatever it is. -/
def OneP (x : Option (Tk × Nat)) (w : World) (e : Ending) (w' : World) : Prop :=
  (∃ (k : Int) (s : List UInt8) (n a m : Int), e = .returned (.tuple #[TV k s n a, .int .i64 m]) ∧ (x = none → m = 0) ∧ ∀ t q, x = some (t, q) → k = (t.kind : Int) ∧ s = t.s ∧ n = t.n ∧ a = (t.at_ : Int) ∧ m = (q : Int)) ∧ Below w.heap.size w w'
set_option maxRecDepth 100000 in
set_option maxHeartbeats 1000000 in
theorem rone_w (l : List UInt8) (hl : (l.length : Int) ≤ 2048) (h1 : 0 < l.length) (hc : isLe l[0] = true) (w : World) : Calls Tryz.prog 37 #[.string (St l)] w (OneP (wordS l) w) := by
  have hsz := St_size l
  have h1I : 0 < (l.length : Int) := by omega
  have hi0 := idx l 0 h1
  simp only [Int.natCast_zero] at hi0
  generalize l[0] = c at *
  go_enter Tryz.func37, Tryz.ntmps37
  go_wp2_with (go_at_call 66; refine (rLe_any _ _).mono ?_; rintro e w2 ⟨rfl, hw2⟩; replace hw2 := hw2.symm; subst hw2; rw [hc])
  go_loopw [4] (fun i wr => ∃ k : Nat, (k : Int) ≤ l.length ∧ i = .int .i64 k ∧ Hid (∀ i (h : i < l.length), i < k → isWd l[i] = true) ∧ w.alloc (.cells z31 33) = wr) (fun i _ => l.length - (intOf i).toNat)
  case atStart => exact ⟨0, by omega, rfl, fun i h hi => by omega, rfl⟩
  case round =>
    obtain ⟨k, hk, rfl, HA, hw⟩ := hrel
    have hend : (k = l.length ∨ ∃ h : k < l.length, isWd l[k] = false) ∨ ∃ h : k < l.length, isWd l[k] = true := by
      by_cases h : k < l.length
      · cases hx : isWd l[k] with
        | true => exact .inr ⟨h, hx⟩
        | false => exact .inl (.inr ⟨h, hx⟩)
      · exact .inl (.inl (by omega))
    rcases hend with hend | ⟨hlt, hx⟩
    · have HSp := hid (spanN_is isWd l k (by omega) HA.out hend)
      have HN := hid (@wordS_no l)
      have HY := hid (@wordS_yes l)
      rw [HSp.out] at HN HY
      have hs := slT l k (by omega)
      subst hw
      by_cases h24 : 24 < k
      · have h24I : ¬ (k : Int) ≤ 24 := by omega
        have HZ := hid (HN.out h24)
        clear HN HY h24
        rcases hend with hend | ⟨hlt, hx⟩
        · have hkI : ¬ (k : Int) < l.length := by omega
          clear hend
          go_wp2_with fail
          refine bodyPost_ret (v := .tuple #[TV 0 [] 0 0, .int .i64 0]) (by simp [results, Tryz.results37, go_sem]; rfl) rfl ⟨⟨0, [], 0, 0, 0, rfl, fun _ => rfl, fun t q h => ?_⟩, by go_grown⟩
          rw [HZ.out] at h; cases h
        · have hkI : (k : Int) < l.length := by omega
          have hi := idx l k hlt
          have HX := hid hx
          generalize l[k] = d at *
          go_wp2_with (go_at_call 67; refine (rWd_any _ _).mono ?_; rintro e w3 ⟨rfl, hw3⟩; replace hw3 := hw3.symm; subst hw3; rw [HX.out])
          refine bodyPost_ret (v := .tuple #[TV 0 [] 0 0, .int .i64 0]) (by simp [results, Tryz.results37, go_sem]; rfl) rfl ⟨⟨0, [], 0, 0, 0, rfl, fun _ => rfl, fun t q h => ?_⟩, by go_grown⟩
          rw [HZ.out] at h; cases h
      · have h24I : (k : Int) ≤ 24 := by omega
        have HZ := hid (HY.out h24)
        clear HN HY h24
        rcases hend with hend | ⟨hlt, hx⟩
        · have hkI : ¬ (k : Int) < l.length := by omega
          clear hend
          go_wp2_with fail
          refine bodyPost_ret (v := .tuple #[TV 1 (l.take k) 0 0, .int .i64 (k : Int)]) (by simp [results, Tryz.results37, go_sem]) rfl ⟨⟨1, l.take k, 0, 0, (k : Int), rfl, fun h => ?_, fun t q h => ?_⟩, by go_grown⟩
          · rw [HZ.out] at h; cases h
          · rw [HZ.out] at h; cases h; exact ⟨rfl, rfl, rfl, rfl, rfl⟩
        · have hkI : (k : Int) < l.length := by omega
          have hi := idx l k hlt
          have HX := hid hx
          generalize l[k] = d at *
          go_wp2_with (go_at_call 67; refine (rWd_any _ _).mono ?_; rintro e w3 ⟨rfl, hw3⟩; replace hw3 := hw3.symm; subst hw3; rw [HX.out])
          refine bodyPost_ret (v := .tuple #[TV 1 (l.take k) 0 0, .int .i64 (k : Int)]) (by simp [results, Tryz.results37, go_sem]) rfl ⟨⟨1, l.take k, 0, 0, (k : Int), rfl, fun h => ?_, fun t q h => ?_⟩, by go_grown⟩
          · rw [HZ.out] at h; cases h
          · rw [HZ.out] at h; cases h; exact ⟨rfl, rfl, rfl, rfl, rfl⟩
    · have hkI : (k : Int) < l.length := by omega
      have hi := idx l k hlt
      have HX := hid hx
      go_wp2_with (go_at_call 67; refine (rWd_any _ _).mono ?_; rintro e w3 ⟨rfl, hw3⟩; replace hw3 := hw3.symm; subst hw3; rw [HX.out])
      go_roundw
      case rel =>
        refine ⟨k + 1, by omega, by go_num, ?_, hw⟩
        intro i h hik
        rcases Nat.lt_or_ge i k with h1 | h1
        · exact HA.out i h h1
        · obtain rfl : i = k := by omega
          exact HX.out
      case measure => simp [intOf]; omega
theorem rLe_34 (w : World) : Calls Tryz.prog 66 #[.int .u8 34] w fun e w' => e = .returned (.bool false) ∧ w' = w := rLe_any 34 w
theorem text_rtx (l : List UInt8) : textS l = (rtx [] 1 l.tail).map (fun x => (⟨3, x.1, 0, 0⟩, x.2)) := by
  rw [show (1 : Nat) = 0 + 1 from rfl, rtx_eq l.tail.length l.tail [] 0 (Nat.le_refl _)]
  unfold textS
  cases txtF [] false 0 l.tail <;> rfl
set_option maxRecDepth 100000 in
set_option maxHeartbeats 1000000 in
theorem rone_t (l : List UInt8) (hl : (l.length : Int) ≤ 2048) (h1 : 0 < l.length) (hc : l[0].toNat = 34) (w : World) : Calls Tryz.prog 37 #[.string (St l)] w (OneP (textS l) w) := by
  have hsz := St_size l
  have h1I : 0 < (l.length : Int) := by omega
  have hi0 := idx l 0 h1
  simp only [Int.natCast_zero] at hi0
  rw [hc] at hi0
  simp only [show ((34 : Nat) : Int) = 34 from rfl] at hi0
  have HRT := hid (fun w => rtext_any l hl h1 w)
  have HTX := hid (text_rtx l)
  cases hr : rtx [] 1 l.tail with
  | none =>
    rw [hr] at HRT HTX
    have HZ := hid (show textS l = none from HTX.out)
    clear hc hr HTX
    go_enter Tryz.func37, Tryz.ntmps37
    go_wp2_with (first
      | (go_at_call 66; refine (rLe_34 _).mono ?_; rintro e w2 ⟨rfl, hw2⟩; replace hw2 := hw2.symm; subst hw2)
      | (go_at_call 68; refine (HRT.out _).mono ?_; unfold RTextP; rintro e w3 ⟨⟨s, kk, rfl, hs⟩, hb⟩; have HKB := hid (box_keep hb); have hfz := HKB.out.1.frozen; have hcs := HKB.out.1.cells; obtain ⟨hc0, hc1, hc2, hc3⟩ := hcs; clear hb; clear hs))
    have hE := HKB.out.1.set4 (.int .i64 0) (.string ⟨#[]⟩) (.int .i64 0) (.int .i64 0)
    obtain ⟨d0, d1, d2, d3⟩ := hE.cells
    have HBB := hid (below_set4 HKB.out.2 (Nat.le_refl _) (.int .i64 0) (.string ⟨#[]⟩) (.int .i64 0) (.int .i64 0))
    refine bodyPost_ret (v := .tuple #[TV 0 [] 0 0, .int .i64 0]) ?_ rfl ⟨⟨0, [], 0, 0, 0, rfl, ?_, ?_⟩, HBB.out⟩
    · clear hc0 hc1 hc2 hc3
      simp [results, Tryz.results37, go_sem, d0, d1, d2, d3]; rfl
    · exact fun _ => rfl
    · intro t q h; rw [HZ.out] at h; cases h
  | some x =>
    obtain ⟨b, n⟩ := x
    rw [hr] at HRT HTX
    have HZ := hid (show textS l = some (⟨3, b, 0, 0⟩, n) from HTX.out)
    clear hc hr HTX
    go_enter Tryz.func37, Tryz.ntmps37
    go_wp2_with (first
      | (go_at_call 66; refine (rLe_34 _).mono ?_; rintro e w2 ⟨rfl, hw2⟩; replace hw2 := hw2.symm; subst hw2)
      | (go_at_call 68; refine (HRT.out _).mono ?_; unfold RTextP; rintro e w3 ⟨⟨s, kk, rfl, hs⟩, hb⟩; obtain ⟨rfl, rfl⟩ := hs b n rfl; have HKB := hid (box_keep hb); have hfz := HKB.out.1.frozen; have hcs := HKB.out.1.cells; obtain ⟨hc0, hc1, hc2, hc3⟩ := hcs; clear hb))
    have hE := HKB.out.1.set4 (.int .i64 3) (.string (St s)) (.int .i64 0) (.int .i64 0)
    obtain ⟨d0, d1, d2, d3⟩ := hE.cells
    have HBB := hid (below_set4 HKB.out.2 (Nat.le_refl _) (.int .i64 3) (.string (St s)) (.int .i64 0) (.int .i64 0))
    refine bodyPost_ret (v := .tuple #[TV 3 s 0 0, .int .i64 (n : Int)]) ?_ rfl ⟨⟨3, s, 0, 0, (n : Int), rfl, ?_, ?_⟩, HBB.out⟩
    · clear hc0 hc1 hc2 hc3
      simp [results, Tryz.results37, go_sem, d0, d1, d2, d3]
    · intro h; rw [HZ.out] at h; cases h
    · intro t q h; rw [HZ.out] at h; cases h; exact ⟨rfl, rfl, rfl, rfl, rfl⟩
theorem sign_45 {l : List UInt8} {r : List UInt8} (h : l = 45 :: r) : signS l = none := by
  subst h
  unfold signS
  rw [List.find?_eq_none.2 ?_]
  intro x hx
  simp only [signsL, List.mem_cons, List.not_mem_nil, or_false] at hx
  rcases hx with h | h | h | h | h | h | h | h | h | h | h <;> subst h <;> simp [List.isPrefixOf]
/-- What is neither word nor text nor number, as the reference asks. -/
def Other (l : List UInt8) : Prop := ∀ h : 0 < l.length, isLe l[0] = false ∧ ¬ l[0].toNat = 34 ∧ isDg l[0] = false ∧ (l[0].toNat = 45 → ∀ h2 : 1 < l.length, isDg l[1] = false)
theorem first_other {l : List UInt8} (h1 : 0 < l.length) (h : Other l) : firstS l = signS l := by
  obtain ⟨a1, a2, a3, a4⟩ := h h1
  by_cases h45 : l[0].toNat = 45
  · rw [firstS_n h1 a1 (.inl h45)]
    obtain ⟨c, r, rfl⟩ : ∃ c r, l = c :: r := by
      cases l with
      | nil => simp at h1
      | cons c r => exact ⟨c, r, rfl⟩
    have hc : c = 45 := UInt8.toNat_inj.1 h45
    subst hc
    rw [sign_45 rfl]
    apply numS_a
    show spanN isDg r = 0
    cases r with
    | nil => rfl
    | cons d r =>
      have := a4 rfl (by simp)
      have hd : isDg d = false := this
      simp [spanN, hd]
  · exact firstS_s h1 a1 h45 a3 a2
end Go.Proofs.YtomnjckbgmbgmaaGreatDoor
