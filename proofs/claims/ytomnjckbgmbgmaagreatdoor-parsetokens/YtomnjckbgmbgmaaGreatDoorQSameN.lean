/-
  Same and SameNode of what is the same.
-/
import Derived.Test.YtomnjckbgmbgmaaGreatDoorQEqV
namespace Go.Proofs.YtomnjckbgmbgmaaGreatDoor
open Go.RowKit Go.Joins

theorem St_self (s : List UInt8) : ((St s).toList == (St s).toList) = true := by simp
set_option maxRecDepth 100000 in
set_option maxHeartbeats 2000000 in
theorem sameNode_any {w : World} {B1 B2 : Nat} {q1 q2 : Nd} (h1 : NdIn B1 w q1) (h2 : NdIn B2 w q2) (he : q1.np = q2.np) : Calls Tryz.prog 27 #[.agg q1.cells.toArray, .agg q2.cells.toArray] w fun e w' => e = .returned (.bool true) ∧ Below w.heap.size w w' := by
  obtain ⟨n, l1, n1, g1⟩ := q1
  obtain ⟨n', l2, n2, g2⟩ := q2
  cases he
  have HB : Hid (Below w.heap.size w ((w.alloc (.cells (⟨n, l1, n1, g1⟩ : Nd).cells.toArray 52)).alloc (.cells (⟨n, l2, n2, g2⟩ : Nd).cells.toArray 52))) := ((Below.refl _ _).alloc (Nat.le_refl _) _).alloc (by simp) _
  have hA := (Kp.alloc (fun _ => False) (w.alloc (.cells (⟨n, l1, n1, g1⟩ : Nd).cells.toArray 52)) (.cells (⟨n, l2, n2, g2⟩ : Nd).cells.toArray 52)).blk (alloc_block w _) id
  have hZ := alloc_block (w.alloc (.cells (⟨n, l1, n1, g1⟩ : Nd).cells.toArray 52)) (.cells (⟨n, l2, n2, g2⟩ : Nd).cells.toArray 52)
  rw [World.size_alloc] at hZ
  have k1 := block_cell hA
  have k2 := block_cell hZ
  have HR1 := hid (s6_range hA)
  have HR2 := hid (s6_range hZ)
  generalize hW : ((w.alloc (.cells (⟨n, l1, n1, g1⟩ : Nd).cells.toArray 52)).alloc (.cells (⟨n, l2, n2, g2⟩ : Nd).cells.toArray 52)) = W at *
  have HW := hid hW
  have HI1 := hid (h1.on HB.out)
  have HI2 := hid (h2.on HB.out)
  have HA := hid hA
  have HZ := hid hZ
  clear hW h1 h2 hA hZ
  simp only [Nd.cells] at k1 k2 HW
  have e1 : (n.kind != n.kind) = false := by simp
  have e2 := St_self n.s
  have e3 : (n.n != n.n) = false := by simp
  have e4 : (n.from_ != n.from_) = false := by simp
  have e5 : (n.to_ != n.to_) = false := by simp
  have ev := eql_val (n.vk, n.vn, n.vs)
  obtain ⟨ol1, on1, og1⟩ : Own int1 1 3 B1 W l1 n.l ∧ Own str1 1 9 B1 W n1 n.names ∧ Own ag2 2 80 B1 W g1 n.aggs := ⟨HI1.out.l, HI1.out.n, HI1.out.g⟩
  obtain ⟨ol2, on2, og2⟩ : Own int1 1 3 B2 W l2 n.l ∧ Own str1 1 9 B2 W n2 n.names ∧ Own ag2 2 80 B2 W g2 n.aggs := ⟨HI2.out.l, HI2.out.n, HI2.out.g⟩
  obtain ⟨pl1, cl1, f1⟩ : ∃ p c, l1 = .slice p n.l.length c := ol1.form
  obtain ⟨pn1, cn1, f2⟩ : ∃ p c, n1 = .slice p n.names.length c := on1.form
  obtain ⟨pg1, cg1, f3⟩ : ∃ p c, g1 = .slice p n.aggs.length c := og1.form
  obtain ⟨pl2, cl2, f4⟩ : ∃ p c, l2 = .slice p n.l.length c := ol2.form
  obtain ⟨pn2, cn2, f5⟩ : ∃ p c, n2 = .slice p n.names.length c := on2.form
  obtain ⟨pg2, cg2, f6⟩ : ∃ p c, g2 = .slice p n.aggs.length c := og2.form
  have HL1 := hid (ol1.sl (fun _ => rfl))
  have HL2 := hid (ol2.sl (fun _ => rfl))
  have HN1 := hid (on1.sl (fun _ => rfl))
  have HN2 := hid (on2.sl (fun _ => rfl))
  have HG1 := hid (og1.sl (fun _ => rfl))
  have HG2 := hid (og2.sl (fun _ => rfl))
  clear HI1 HI2 ol1 on1 og1 ol2 on2 og2
  subst f1 f2 f3 f4 f5 f6
  have m1 : (n.l.length : Int) ≤ 9223372036854775807 := by obtain ⟨_, _, _, x1, x2⟩ := HL1.out.form; unfold maxLen at x2; omega
  have m2 : (n.names.length : Int) ≤ 9223372036854775807 := by obtain ⟨_, _, _, x1, x2⟩ := HN1.out.form; unfold maxLen at x2; omega
  have m3 : (n.aggs.length : Int) ≤ 9223372036854775807 := by obtain ⟨_, _, _, x1, x2⟩ := HG1.out.form; unfold maxLen at x2; omega
  simp only [Nd.cells]
  have b1 : ((n.l.length : Int) != n.l.length) = false := by simp
  have b2 : ((n.names.length : Int) != n.names.length) = false := by simp
  have b3 : ((n.aggs.length : Int) != n.aggs.length) = false := by simp
  go_enter Tryz.func27, Tryz.ntmps27
  go_upto_region 1 with fail
  rw [HW.out]
  go_wp2_with fail
  clear k1 k2
  go_loopw [5] (fun x wr => ∃ k : Nat, k ≤ n.l.length ∧ x = .int .i64 k ∧ Hid (Below W.heap.size W wr)) (fun x _ => n.l.length - (intOf x).toNat)
  case atStart => exact ⟨0, by omega, rfl, Below.refl _ _⟩
  case round =>
    obtain ⟨k, hk, rfl, HBr⟩ := hrel
    have c1 := block_cell (block_on HA.out HBr.out) 16
    have c2 := block_cell (block_on HZ.out HBr.out) 16
    simp only [Nd.cells] at c1 c2
    by_cases hlt : k < n.l.length
    · obtain ⟨x, hx⟩ : ∃ x, n.l[k]? = some x := ⟨n.l[k], List.getElem?_eq_getElem hlt⟩
      obtain ⟨ga, oa, hpa, -, ha⟩ := (HL1.out.on HBr.out).at hx
      obtain ⟨gb, ob, hpb, -, hb⟩ := (HL2.out.on HBr.out).at hx
      have kI : (k : Int) < n.l.length := by omega
      have k0 : (0 : Int) ≤ k := by omega
      subst hpa hpb
      have d1 : wr.cell? ⟨ga, oa + k, none⟩ = some (.int .i64 x) := by have := ha 0 _ rfl; simpa using this
      have d2 : wr.cell? ⟨gb, ob + k, none⟩ = some (.int .i64 x) := by have := hb 0 _ rfl; simpa using this
      have eI : (x != x) = false := by simp

      clear ha hb hx
      go_upto_region 6 with fail
      go_quiet (fail)
      go_wp2_with fail
      go_roundw
      case rel => exact ⟨k + 1, by omega, by go_num, below_drewN HBr.out _⟩
      case measure => simp [intOf]; omega
    · have kI : ¬ (k : Int) < n.l.length := by omega
      go_wp2_with fail
      have HB1 := hid HBr.out
      clear c1 c2 HBr
      go_loopw [6] (fun x wr => ∃ k : Nat, k ≤ n.names.length ∧ x = .int .i64 k ∧ Hid (Below W.heap.size W wr)) (fun x _ => n.names.length - (intOf x).toNat)
      case atStart => exact ⟨0, by omega, rfl, HB1.out⟩
      case round =>
        obtain ⟨k, hk, rfl, HBr⟩ := hrel
        have c1 := block_cell (block_on HA.out HBr.out) 17
        have c2 := block_cell (block_on HZ.out HBr.out) 17
        simp only [Nd.cells] at c1 c2
        by_cases hlt : k < n.names.length
        · obtain ⟨x, hx⟩ : ∃ x, n.names[k]? = some x := ⟨n.names[k], List.getElem?_eq_getElem hlt⟩
          obtain ⟨ga, oa, hpa, -, ha⟩ := (HN1.out.on HBr.out).at hx
          obtain ⟨gb, ob, hpb, -, hb⟩ := (HN2.out.on HBr.out).at hx
          have kI : (k : Int) < n.names.length := by omega
          have k0 : (0 : Int) ≤ k := by omega
          subst hpa hpb
          have d1 : wr.cell? ⟨ga, oa + k, none⟩ = some (.string (St x)) := by have := ha 0 _ rfl; simpa using this
          have d2 : wr.cell? ⟨gb, ob + k, none⟩ = some (.string (St x)) := by have := hb 0 _ rfl; simpa using this
          have eS := St_self x

          clear ha hb hx
          go_upto_region 11 with fail
          go_quiet (fail)
          go_wp2_with fail
          go_roundw
          case rel => exact ⟨k + 1, by omega, by go_num, below_drewN HBr.out _⟩
          case measure => simp [intOf]; omega
        · have kI : ¬ (k : Int) < n.names.length := by omega
          go_wp2_with fail
          have HB2 := hid HBr.out
          clear c1 c2 HBr
          go_loopw [7] (fun x wr => ∃ k : Nat, k ≤ n.aggs.length ∧ x = .int .i64 k ∧ Hid (Below W.heap.size W wr)) (fun x _ => n.aggs.length - (intOf x).toNat)
          case atStart => exact ⟨0, by omega, rfl, HB2.out⟩
          case round =>
            obtain ⟨k, hk, rfl, HBr⟩ := hrel
            have c1 := block_cell (block_on HA.out HBr.out) 18
            have c2 := block_cell (block_on HZ.out HBr.out) 18
            simp only [Nd.cells] at c1 c2
            by_cases hlt : k < n.aggs.length
            · obtain ⟨x, hx⟩ : ∃ x, n.aggs[k]? = some x := ⟨n.aggs[k], List.getElem?_eq_getElem hlt⟩
              obtain ⟨ga, oa, hpa, -, ha⟩ := (HG1.out.on HBr.out).at hx
              obtain ⟨gb, ob, hpb, -, hb⟩ := (HG2.out.on HBr.out).at hx
              have kI : (k : Int) < n.aggs.length := by omega
              have k0 : (0 : Int) ≤ k := by omega
              subst hpa hpb
              have d1 : wr.cell? ⟨ga, oa + k * 2, none⟩ = some (.int .i64 x.1) := ha 0 _ rfl
              have d2 : wr.cell? ⟨gb, ob + k * 2, none⟩ = some (.int .i64 x.1) := hb 0 _ rfl
              have d3 : wr.cell? ⟨ga, oa + k * 2 + 1, none⟩ = some (.string (St x.2)) := ha 1 _ rfl
              have d4 : wr.cell? ⟨gb, ob + k * 2 + 1, none⟩ = some (.string (St x.2)) := hb 1 _ rfl
              have eA := eql_agg x.1 (St x.2)

              clear ha hb hx
              go_upto_region 16 with fail
              go_quiet (fail)
              go_wp2_with fail
              go_roundw
              case rel => exact ⟨k + 1, by omega, by go_num, below_drewN HBr.out _⟩
              case measure => simp [intOf]; omega
            · have kI : ¬ (k : Int) < n.aggs.length := by omega
              go_wp2_with fail
              go_ret
              exact ⟨rfl, HB.out.trans (HBr.out.mono HB.out.size)⟩
end Go.Proofs.YtomnjckbgmbgmaaGreatDoor
