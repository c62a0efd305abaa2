/-
  catchmentlaw04.WireBack, for every value, any bytes and any kind.
-/
import Derived.Test.YtaccindmjaejdaaQBackWalk
namespace Go.Proofs.Ytaccindmjaejdaa
open Go.RowKit Go.Sort Go.Shelf

set_option maxRecDepth 100000 in
set_option maxHeartbeats 1600000 in
theorem back_invalid {x : Vl} {vb : Value} {xs : List UInt8} {k : Int} {w : World} (hX : BAt w vb xs) (hl : xs.length ≤ 140737488351232) (hv : validL x = false) : Calls Try.prog 6 #[x.val, vb, .int .i64 k] w fun e w' => e = .returned (.bool true) ∧ Below w.heap.size w w' := by
  have HXB := hid hX
  have HLB := hid hl
  have HVL := hid hv
  obtain ⟨pb, cb, rfl, -⟩ := hX
  clear hl hv
  have HB := hid ((Below.refl w.heap.size w).alloc (Nat.le_refl _) (.cells (vcl x) 44))
  have KB := hid (alloc_block w (.cells (vcl x) 44))
  have M1 : Hid True := trivial
  go_enter Try.func6, Try.ntmps6
  go_upto_region 7 with (first
    | (go_at_call 20; refine wshown_any.mono ?_; rintro e w1 ⟨rfl, hb1⟩; have HB1 := hid (below_on HB.out hb1); have KB1 := hid (block_on KB.out hb1); have kb1 := block_cell KB1.out; clear hb1)
    | (go_at_call 21; have FIRST := M1; refine (put_bad HVL.out).mono ?_; rintro e w2 ⟨rfl, hb2⟩; have HBc := hid (below_on HB1.out hb2); clear hb2 kb1 M1 FIRST))
  have HXc := hid (HXB.out.on HBc.out)
  by_cases hk : 1 ≤ k ∧ k ≤ 4
  · have HK := hid hk
    clear hk
    cases htk : takeV k xs with
    | none =>
      have HN := hid htk
      clear htk
      generalize (⟨xs.toArray⟩ : ByteArray) = sb at *
      go_wp2_with (go_at_call 23; refine (take_none HXc.out HK.out HN.out).mono ?_; rintro e w9 ⟨rfl, hb9⟩; have S9 := hid (below_on HBc.out hb9); clear hb9)
      go_ret
      exact ⟨rfl, S9.out.alloc S9.out.size _⟩
    | some z =>
      obtain ⟨y, r⟩ := z
      have HN := hid htk
      obtain ⟨-, e2, e3⟩ := takeV_back htk
      have HY := hid e2
      have HYS := hid (valid_len e2)
      have HLR : Hid (r.length ≤ 140737488355328) := by have := HLB.out; have := congrArg List.length e3; rw [List.length_append] at this; show r.length ≤ 140737488355328; omega
      have hcat := cat_bytes (valB y) r
      rw [e3] at hcat
      have hsz : ¬ 9223372036854775807 < (⟨(valB y).toArray⟩ : ByteArray).size + (⟨r.toArray⟩ : ByteArray).size := by
        have h1 := valB_len HYS.out
        have h2 := HLR.out
        have e1 : (⟨(valB y).toArray⟩ : ByteArray).size = (valB y).length := by simp [ByteArray.size]
        have e2 : (⟨r.toArray⟩ : ByteArray).size = r.length := by simp [ByteArray.size]
        rw [e1, e2]; omega
      clear htk e2 e3
      obtain ⟨sb, hsb⟩ : ∃ s : ByteArray, (⟨xs.toArray⟩ : ByteArray) = s := ⟨_, rfl⟩
      obtain ⟨sa, hsa⟩ : ∃ s : ByteArray, (⟨(valB y).toArray⟩ : ByteArray) = s := ⟨_, rfl⟩
      obtain ⟨sr, hsr⟩ : ∃ s : ByteArray, (⟨r.toArray⟩ : ByteArray) = s := ⟨_, rfl⟩
      rw [hsa, hsr] at hsz
      rw [hsa, hsr, hsb] at hcat
      have HSB := hid hsb
      have HSA := hid hsa
      have HSR := hid hsr
      clear hsb hsa hsr
      have M2 : Hid True := trivial
      go_wp2_with (first
        | (go_at_call 23; have FIRST := M2; refine (take_some HXc.out HN.out HLR.out).mono ?_; rintro e w9 ⟨v9, rfl, ho9, hb9⟩; obtain ⟨p9, c9, rfl⟩ := ho9.form; have HO9 := hid (ho9.bat.on ((Below.refl _ w9).alloc (Nat.le_refl _) (.cells (vcl y) 44))); have S9 := hid ((below_on HBc.out hb9).alloc (below_on HBc.out hb9).size (.cells (vcl y) 44)); clear ho9 hb9 M2 FIRST)
        | (go_at_call 21; refine (put_ok (bat_nil _) HY.out (by simp) HYS.out).mono ?_; rintro e w10 ⟨v10, rfl, ho10, hb10⟩; rw [List.nil_append] at ho10; obtain ⟨p10, c10, rfl⟩ := ho10.form; have S10 := hid (below_on S9.out hb10); have d1 := conv_bat ho10.bat; have d2 := conv_bat (HO9.out.on hb10); have d3 := conv_bat (HXB.out.on S10.out); rw [HSA.out] at d1; rw [HSR.out] at d2; rw [HSB.out] at d3; clear ho10 hb10))
      go_ret
      exact ⟨rfl, S10.out⟩
  · have HK := hid hk
    clear hk
    generalize (⟨xs.toArray⟩ : ByteArray) = sb at *
    go_wp2_with (go_at_call 23; refine (take_bad HXc.out HK.out).mono ?_; rintro e w9 ⟨rfl, hb9⟩; have S9 := hid (below_on HBc.out hb9); clear hb9)
    go_ret
    exact ⟨rfl, S9.out.alloc S9.out.size _⟩
theorem wback_any {x : Vl} {vb : Value} {xs : List UInt8} {k : Int} {w : World} (hg : Rng x) (hX : BAt w vb xs) (hl : xs.length ≤ 140737488351232) (_hk : -9223372036854775808 ≤ k ∧ k ≤ 9223372036854775807) : Calls Try.prog 6 #[x.val, vb, .int .i64 k] w fun e w' => e = .returned (.bool true) ∧ Below w.heap.size w w' := by
  cases hv : validL x with
  | true => exact back_valid hg hX hl hv
  | false => exact back_invalid hX hl hv
end Go.Proofs.Ytaccindmjaejdaa
