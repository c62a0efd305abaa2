/-
  What Same returns of rows that say the same.
-/
import Derived.Test.YtceifmnnejlkfaaDoorQPlacesW
namespace Go.Proofs.YtceifmnnejlkfaaDoor
open Go.RowKit Go.Joins
/-- A row of tokens as a value. -/
def Rv (w : World) (v : Value) (ts : List Tk) : Prop := ∃ (p : Option Addr) (g cap : Nat), v = Value.slice p ts.length cap ∧ (0 < ts.length → p = some ⟨g, 0, none⟩) ∧ Rw w g ts ∧ ts.length ≤ 9223372036854775807
theorem Tr.rv {B : Nat} {w : World} {v : Value} {ts : List Tk} (h : Tr B w v ts) : Rv w v ts := by
  have hl := h.len_le
  obtain ⟨g, cap, h1, h2⟩ := h.form
  rcases h1 with ⟨rfl, rfl⟩ | rfl
  · exact ⟨none, g, 0, rfl, fun h => by simp at h, h2, hl⟩
  · exact ⟨_, g, cap, rfl, fun _ => rfl, h2, hl⟩
/-- Two rows that say the same; places: theirs, too. -/
def SameT (f : Bool) (ts us : List Tk) : Prop := ts.length = us.length ∧ ∀ i (h : i < ts.length) (h' : i < us.length), ts[i].kind = us[i].kind ∧ ts[i].s = us[i].s ∧ ts[i].n = us[i].n ∧ (f = true → ts[i].at_ = us[i].at_)
theorem SameT.refl (f : Bool) (ts : List Tk) : SameT f ts ts := ⟨rfl, fun _ _ _ => ⟨rfl, rfl, rfl, fun _ => rfl⟩⟩
set_option maxRecDepth 100000 in
set_option maxHeartbeats 1000000 in
theorem same_any (f : Bool) (ts us : List Tk) (hS : SameT f ts us) (v u : Value) (w : World) (hv : Rv w v ts) (hu : Rv w u us) : Calls Tryd.prog 12 #[v, u, .bool f] w fun e w' => e = .returned (.bool true) ∧ Below w.heap.size w w' := by
  obtain ⟨p, g, cap, rfl, hp, hR, hl⟩ := hv
  obtain ⟨p', g', cap', rfl, hp', hR', hl'⟩ := hu
  have HP := hid hp
  have HP' := hid hp'
  have HR := hid hR
  have HR' := hid hR'
  have HS := hid hS.2
  have hlen := hS.1
  rw [← hlen] at HP'
  have hlI : (ts.length : Int) ≤ 9223372036854775807 := by omega
  have hul : (us.length : Int) = ts.length := by omega
  have HLen := hid hlen
  have hul' : us.length = ts.length := hlen.symm
  clear hp hp' hR hR' hS hl hl' hlen
  go_enter Tryd.func12, Tryd.ntmps12
  go_wp2_with fail
  go_loopw [7] (fun i wr => ∃ k : Nat, (k : Int) ≤ ts.length ∧ i = .int .i64 k ∧ Hid (Rw wr g ts) ∧ Hid (Rw wr g' us) ∧ Hid (Below w.heap.size w wr)) (fun i _ => ts.length - (intOf i).toNat)
  case atStart => exact ⟨0, by omega, rfl, HR.out, HR'.out, Below.refl _ _⟩
  case round =>
    obtain ⟨k, hk, rfl, HA, HB, HBr⟩ := hrel
    clear HR HR'
    by_cases hlt : k < ts.length
    · obtain rfl := HP.out (by omega)
      obtain rfl := HP'.out (by omega)
      have hkI : (k : Int) < ts.length := by omega
      have hlt' : k < us.length := by omega
      obtain ⟨c0, c1, c2, c3⟩ := HA.out k hlt
      obtain ⟨d0, d1, d2, d3⟩ := HB.out k hlt'
      obtain ⟨s0, s1, s2, s3⟩ := HS.out k hlt hlt'
      rw [← s0] at d0
      rw [← s1] at d1
      rw [← s2] at d2
      have S3 := hid s3
      clear s0 s1 s2 s3
      generalize ts[k].at_ = A at *
      generalize us[k].at_ = A' at *
      generalize ts[k].kind = KD at *
      generalize ts[k].s = S at *
      generalize ts[k].n = N at *
      have e1 : ((KD : Int) == (KD : Int)) = true := by simp
      have e2 : (N == N) = true := by simp
      have e3 : ((St S).toList == (St S).toList) = true := by simp
      cases f with
      | true =>
        have hAA := S3.out rfl
        subst hAA
        have e4 : ((A : Int) == (A : Int)) = true := by simp
        clear S3
        go_upto_region 6 with fail
        go_quiet (fail)
        go_wp2_with fail
        go_roundw
        case rel => exact ⟨k + 1, by omega, by go_num, HA.out, HB.out, below_drewN HBr.out _⟩
        case measure => simp [intOf]; omega
      | false =>
        clear S3
        go_upto_region 6 with fail
        go_quiet (fail)
        go_wp2_with fail
        go_roundw
        case rel => exact ⟨k + 1, by omega, by go_num, HA.out, HB.out, below_drewN HBr.out _⟩
        case measure => simp [intOf]; omega
    · go_wp2_with fail
      go_ret
      exact ⟨rfl, HBr.out⟩
end Go.Proofs.YtceifmnnejlkfaaDoor
