/-
  The walk of catchmentlaw04.WireBack: a value that is valid.
-/
import Derived.Test.YtaccindmjaejdaaPF
import Derived.Test.YtaccindmjaejdaaPL
import Derived.Test.YtaccindmjaejdaaQVMath
import Derived.Test.YtaccindmjaejdaaQWStep
import Derived.Deep.CutRange
namespace Go.Proofs.Ytaccindmjaejdaa
open Go.RowKit Go.Sort Go.Shelf

theorem step_call2 {ops : Array Oper} {o : Oper} {a : Act} {w : World} {K : Act → World → Prop} {Q : Exit → Act → World → Prop} {E : Prop} {f : FuncId} {v v2 : Value} (hgd : o.guard = none) (x y : Operand) (t t2 : TypeId)
    (ho : o.op = .call { callee := .value (.func f), args := #[x, y], argTypes := #[t, t2] }) (hx : a.eval x = v) (hy : a.eval y = v2) (hen : ∀ args w, (callFunc f args).run Try.prog w = .ok (.enter f args) w)
    (hc : Calls Try.prog f #[v, v2] w fun e w' => ∃ u, e = .returned u ∧ K (a.put o.dst u) w') : if Region.wanted o (yielded ops a.tmps) = true then Oper.wp Try.prog o a w K Q else E := by
  have hw : Region.wanted o (yielded ops a.tmps) = true := by simp [Region.wanted, hgd]
  rw [if_pos hw]
  unfold Oper.wp
  have hr : (execOp a.eval o).run Try.prog w = .ok (.enter f #[v, v2]) w := by
    simp [execOp, ho, resolve, invoke, hen, go_sem]
    rw [← hx, ← hy]
    cases x <;> cases y <;> simp [Act.eval]
  rw [hr, Oper.upon_enter]
  refine hc.mono ?_
  rintro e w' ⟨u, rfl, hk⟩
  exact hk
abbrev BK (b : Nat) (x : Vl) (w : World) : Prop := w.heap[b]? = some (.cells (vcl x) 44) ∧ w.cell? ⟨b, 0, none⟩ = some (.int .i64 x.k)
theorem sBox {w : World} {b : Nat} {x : Vl} (h : w.heap[b]? = some (.cells (vcl x) 44)) : BK b x w := ⟨h, (block_cell h 0).trans rfl⟩
theorem sBoxA {w : World} {b : Nat} {x : Vl} (h : BK b x w) (o : Obj) : BK b x (w.alloc o) := sBox (blk_up h.1 o)
theorem sBoxS {w : World} {b z i : Nat} {x : Vl} {u : Value} (h : BK b x w) (hne : b ≠ z) : BK b x (w.setCell ⟨z, i, none⟩ u) := sBox ((Below.heap_setCell _ _ _ _ hne).trans h.1)
theorem sBoxD {w : World} {b : Nat} {x : Vl} (h : BK b x w) : BK b x w.drew := h
theorem kz1 {B : Nat} {w2 w3 w4 w5 : World} (h3 : Fr B ((w2.alloc (.cells #[] 5)).alloc (.cells zc 44)).drew w3) (h4 : Fr B w3 w4) (h5 : Below w4.heap.size w4 w5) : w5.heap[w2.heap.size + 1]? = some (.cells zc 44) := by
  have h := alloc_block (w2.alloc (.cells #[] 5)) (.cells zc 44)
  rw [World.size_alloc] at h
  have e : ((w2.alloc (.cells #[] 5)).alloc (.cells zc 44)).drew.heap[w2.heap.size + 1]? = some (.cells zc 44) := h
  exact block_on (h4.k5 _ _ _ _ (h3.k5 _ _ _ _ e (by decide)) (by decide)) h5
theorem kz0 {B : Nat} {w2 w3 w4 w5 : World} (h3 : Fr B ((w2.alloc (.cells zc 44)).alloc (.cells #[] 5)).drew w3) (h4 : Fr B w3 w4) (h5 : Below w4.heap.size w4 w5) : w5.heap[w2.heap.size]? = some (.cells zc 44) := by
  have h := blk_up (alloc_block w2 (.cells zc 44)) (.cells #[] 5)
  have e : ((w2.alloc (.cells zc 44)).alloc (.cells #[] 5)).drew.heap[w2.heap.size]? = some (.cells zc 44) := h
  exact block_on (h4.k5 _ _ _ _ (h3.k5 _ _ _ _ e (by decide)) (by decide)) h5
theorem nob_zc : NoB zc := by
  intro o t h
  match o, h with
  | 0, h => simp at h
  | 1, h => simp at h
  | 2, h => simp at h
  | 3, h => simp at h
  | 4, h => simp at h
  | 5, h => simp at h
  | 6, h => simp at h
  | 7, h => simp at h
  | 8, h => simp at h
  | 9, h => simp at h
  | 10, h => simp at h
  | o + 11, h => simp at h
theorem met11 {w2 w5 : World} {z : Nat} {x : Vl} {v : Value} {xs : List UInt8} (hz : w5.heap[z]? = some (.cells zc 44)) (ho : BAt w5 v xs) (hS : Below w2.heap.size w2 w5) (h2 : w2.heap.size ≤ z) :
    (put11 w5 z x.k x.n x.s x.h0 x.h1 x.h2 x.h3 x.h4 x.h5 x.h6 x.h7).heap[z]? = some (.cells (vcl x) 44) ∧ BAt (put11 w5 z x.k x.n x.s x.h0 x.h1 x.h2 x.h3 x.h4 x.h5 x.h6 x.h7) v xs ∧ Below w2.heap.size w2 (put11 w5 z x.k x.n x.s x.h0 x.h1 x.h2 x.h3 x.h4 x.h5 x.h6 x.h7) :=
  ⟨put11_over _ _ _ _ _ _ _ _ _ _ _ hz, ho.keep hz nob_zc (put11_rd ..), hS.trans ((put11_rd w5 z x.k x.n x.s x.h0 x.h1 x.h2 x.h3 x.h4 x.h5 x.h6 x.h7).below h2 hS.size)⟩
theorem cat_bytes (a b : List UInt8) : (⟨a.toArray⟩ : ByteArray) ++ (⟨b.toArray⟩ : ByteArray) = ⟨(a ++ b).toArray⟩ := by
  apply ByteArray.ext
  simp [ByteArray.data_append]
theorem neqV_self (x : Vl) (w : World) : Sem.run Try.prog (binOp .neq 44 (.agg (vcl x)) (.agg (vcl x))) w = .ok (.bool false) w := by
  have h := neqV.1 x x w
  rw [(eqL_iff x x).2 rfl] at h
  exact h
theorem low1 (w : World) (o : Obj) : Below w.heap.size w (w.drew.alloc o) := (Below.refl _ w).drew.alloc (Nat.le_refl _) o
theorem low2 (w : World) (o o2 : Obj) : Below w.heap.size w ((w.drew.alloc o).alloc o2) := (low1 w o).alloc (by rw [World.size_alloc]; exact Nat.le_succ _) o2
theorem made2 (w : World) (o : Obj) : OwnB w.heap.size ((w.drew.alloc o).alloc (.cells #[] 5)) (.slice (some ⟨w.heap.size + 1, 0, none⟩) 0 0) [] := by
  have h := OwnB.made w.heap.size (w.drew.alloc o) (by rw [World.size_alloc]; exact Nat.le_succ _)
  rw [World.size_alloc] at h
  exact h
theorem BAt.onB {w w' : World} {v : Value} {xs : List UInt8} (h : BAt w v xs) (hb : Below w.heap.size w w') : BAt w' v xs := h.on hb
set_option maxRecDepth 100000 in
set_option maxHeartbeats 1600000 in
theorem back_valid {x : Vl} {vb : Value} {xs : List UInt8} {k : Int} {w : World} (hg : Rng x) (hX : BAt w vb xs) (hl : xs.length ≤ 140737488351232) (hv : validL x = true) : Calls Try.prog 6 #[x.val, vb, .int .i64 k] w fun e w' => e = .returned (.bool true) ∧ Below w.heap.size w w' := by
  have eg : ∀ args w, (callFunc 23 args).run Try.prog w = .ok (.enter 23 args) w := enters_of Try.func23 (by kernel_rfl) rfl
  have HXB := hid hX
  have HLB := hid hl
  have HVL := hid hv
  have HSM := hid (valid_len hv)
  have HVB : Hid ((valB x).length ≤ 65) := valB_len (valid_len hv)
  have HTK := hid (takeV_valB (r := xs) hv hg)
  have HEG := hid eg
  obtain ⟨pb, cb, rfl, -⟩ := hX
  clear hl hv hg eg
  have HB := hid ((Below.refl w.heap.size w).alloc (Nat.le_refl _) (.cells (vcl x) 44))
  have KB := hid (alloc_block w (.cells (vcl x) 44))
  have M1 : Hid True := trivial
  go_enter Try.func6, Try.ntmps6
  go_wp2_with (first
    | (go_at_call 20; refine wshown_any.mono ?_; rintro e w1 ⟨rfl, hb1⟩; have HB1 := hid (below_on HB.out hb1); have KB1 := hid (block_on KB.out hb1); have kb1 := block_cell KB1.out; clear hb1)
    | (go_at_call 21; have FIRST := M1; refine (put_ok (bat_nil _) HVL.out (by simp) HSM.out).mono ?_; rintro e w2 ⟨v2, rfl, ho2, hb2⟩; rw [List.nil_append] at ho2; have HX2 := hid ho2.bat; obtain ⟨p2, c2, rfl⟩ := ho2.form; have HB2 := hid (below_on HB1.out hb2); have KB2 := hid (block_on KB1.out hb2); clear hb2 ho2 kb1 M1 FIRST))
  have hS0 := sBox (x := x) (b := w.heap.size) KB2.out
  have hlw : w.heap.size < w2.heap.size := lt_of_block KB2.out
  go_cut [10, 11, 12] from 26 to 37 (fun s r e wx => ∃ bz p5 c5, s = .pointer (some ⟨bz, 0, none⟩) ∧ r = .slice p5 xs.length c5 ∧ e = .int .i64 0 ∧ Hid (wx.heap[bz]? = some (.cells (vcl x) 44)) ∧ Hid (BAt wx (.slice p5 xs.length c5) xs) ∧ Hid (Below w2.heap.size w2 wx))
  case first =>
    go_region_held3 (BK w.heap.size x) (((repeat (first | (with_reducible refine sBoxD ?_) | (with_reducible refine sBoxA ?_ _) | (with_reducible refine sBoxS ?_ (by omega)))); (with_reducible assumption)))
      (first
      | (have FIRST := HX2; refine step_appF rfl (.tmp 27) (.tmp 28) rfl (by simp [Act.eval]; try rfl) (by simp [Act.eval]; try rfl) (OwnB.made w2.heap.size w2.drew (Nat.le_refl _)) (HX2.out.on (low1 w2 (.cells #[] 5))) (by have := HVB.out; simp; omega) (low1 w2 (.cells #[] 5)).size ?_; intro v3 w3 hown3 hf3; rw [List.nil_append] at hown3; have HO3 := hid hown3; have FR3 := hid hf3; have S3 := hid ((low1 w2 (.cells #[] 5)).trans hf3.low); have hS3 := sBox (x := x) (block_on KB2.out S3.out); clear hown3 hf3 HX2 FIRST hS0)
      | (have FIRST := HX2; refine step_appF rfl (.tmp 27) (.tmp 28) rfl (by simp [Act.eval]; try rfl) (by simp [Act.eval]; try rfl) ((OwnB.made w2.heap.size w2.drew (Nat.le_refl _)).alloc (.cells zc 44)) (HX2.out.on (low2 w2 (.cells #[] 5) (.cells zc 44))) (by have := HVB.out; simp; omega) (low2 w2 (.cells #[] 5) (.cells zc 44)).size ?_; intro v3 w3 hown3 hf3; rw [List.nil_append] at hown3; have HO3 := hid hown3; have FR3 := hid hf3; have S3 := hid ((low2 w2 (.cells #[] 5) (.cells zc 44)).trans hf3.low); have hS3 := sBox (x := x) (block_on KB2.out S3.out); clear hown3 hf3 HX2 FIRST hS0)
      | (have FIRST := HX2; refine step_appF rfl (.tmp 27) (.tmp 28) rfl (by simp [Act.eval]; try rfl) (by simp [Act.eval]; try rfl) (made2 w2 (.cells zc 44)) (HX2.out.on (low2 w2 (.cells zc 44) (.cells #[] 5))) (by have := HVB.out; simp; omega) (low2 w2 (.cells zc 44) (.cells #[] 5)).size ?_; intro v3 w3 hown3 hf3; rw [List.nil_append] at hown3; have HO3 := hid hown3; have FR3 := hid hf3; have S3 := hid ((low2 w2 (.cells zc 44) (.cells #[] 5)).trans hf3.low); have hS3 := sBox (x := x) (block_on KB2.out S3.out); clear hown3 hf3 HX2 FIRST hS0)
      | (have FIRST := HO3; refine step_appF rfl (.tmp 29) (.tmp 30) rfl (by simp [Act.eval]; try rfl) (by simp [Act.eval]; try rfl) HO3.out ((HXB.out.on HB2.out).on S3.out) (by have := HVB.out; have := HLB.out; omega) S3.out.size ?_; intro v4 w4 hown4 hf4; have HO4 := hid hown4; have FR4 := hid hf4; have S4 := hid (S3.out.trans hf4.low); have hS4 := sBox (x := x) (block_on KB2.out S4.out); clear hown4 hf4 FIRST HO3 hS3)
      | (have FIRST := HO3; refine step_appF rfl (.tmp 29) (.tmp 30) rfl (by simp [Act.eval]; try rfl) (by simp [Act.eval]; try rfl) (HO3.out.alloc (.cells zc 44)) ((HXB.out.on HB2.out).on (S3.out.alloc S3.out.size (.cells zc 44))) (by have := HVB.out; have := HLB.out; omega) (S3.out.alloc S3.out.size (.cells zc 44)).size ?_; intro v4 w4 hown4 hf4; have HO4 := hid hown4; have FR4 := hid hf4; have S4 := hid ((S3.out.alloc S3.out.size (.cells zc 44)).trans hf4.low); have hS4 := sBox (x := x) (block_on KB2.out S4.out); clear hown4 hf4 FIRST HO3 hS3)
      | (have FIRST := HO4; refine step_call2 (v := v4) (v2 := .int .i64 x.k) rfl (.tmp 31) (.tmp 33) 41 3 rfl (by simp [Act.eval]) (by simp [Act.eval]) HEG.out ?_; refine (take_some (HO4.out).bat HTK.out (by have := HLB.out; omega)).mono ?_; rintro e w5 ⟨v5, rfl, ho5, hb5⟩; refine ⟨_, rfl, ?_⟩; obtain ⟨p5, c5, rfl⟩ := ho5.form; have HO5 := hid ho5; have FR5 := hid hb5; have S5 := hid (S4.out.trans (hb5.mono S4.out.size)); have hS5 := sBox (x := x) (block_on KB2.out S5.out); have hz3 := S3.out.size; have hz4 := S4.out.size; (first | have KZ := hid (block_on (alloc_block w4 (.cells zc 44)) hb5) | have KZ := hid (block_on (FR4.out.k5 _ _ _ _ (alloc_block w3 (.cells zc 44)) (by decide)) hb5) | have KZ := hid (kz1 FR3.out FR4.out hb5) | have KZ := hid (kz0 FR3.out FR4.out hb5) | have KZ : Hid True := trivial); (try have kz := block_cell KZ.out); (try have fz := frozen_no KZ.out); clear ho5 hb5 hS4 FIRST HO4)
      | (have FIRST := HO4; refine step_call2 (v := v4) (v2 := .int .i64 x.k) rfl (.tmp 31) (.tmp 33) 41 3 rfl (by simp [Act.eval]) (by simp [Act.eval]) HEG.out ?_; refine (take_some (HO4.out.alloc (.cells zc 44)).bat HTK.out (by have := HLB.out; omega)).mono ?_; rintro e w5 ⟨v5, rfl, ho5, hb5⟩; refine ⟨_, rfl, ?_⟩; obtain ⟨p5, c5, rfl⟩ := ho5.form; have HO5 := hid ho5; have FR5 := hid hb5; have S5 := hid ((S4.out.alloc S4.out.size (.cells zc 44)).trans (hb5.mono (S4.out.alloc S4.out.size (.cells zc 44)).size)); have hS5 := sBox (x := x) (block_on KB2.out S5.out); have hz3 := S3.out.size; have hz4 := S4.out.size; (first | have KZ := hid (block_on (alloc_block w4 (.cells zc 44)) hb5) | have KZ := hid (block_on (FR4.out.k5 _ _ _ _ (alloc_block w3 (.cells zc 44)) (by decide)) hb5) | have KZ := hid (kz1 FR3.out FR4.out hb5) | have KZ := hid (kz0 FR3.out FR4.out hb5) | have KZ : Hid True := trivial); (try have kz := block_cell KZ.out); (try have fz := frozen_no KZ.out); clear ho5 hb5 hS4 FIRST HO4))
    all_goals go_wp2_with fail
    all_goals go_meet
    all_goals first | exact ⟨_, _, _, rfl, rfl, rfl, (met11 KZ.out HO5.out.bat S5.out (by omega)).1, (met11 KZ.out HO5.out.bat S5.out (by omega)).2.1, (met11 KZ.out HO5.out.bat S5.out (by omega)).2.2⟩ | exact ⟨_, _, _, rfl, rfl, rfl, alloc_block w5 _, HO5.out.bat.on ((Below.refl _ _).alloc (Nat.le_refl _) _), S5.out.alloc S5.out.size _⟩
  case rest =>
    obtain ⟨bz, p5, c5, rfl, rfl, rfl, KZ, HX5, S5⟩ := hcut
    obtain ⟨v5, rfl⟩ : ∃ x, x = wc := ⟨_, rfl⟩
    have kb5 := block_cell (block_on KB2.out S5.out)
    have kz5 := block_cell KZ.out
    have HB5 := hid (below_on HB2.out S5.out)
    have cq1 := conv_bat HX5.out
    have cq2 := conv_bat (HXB.out.on HB5.out)
    have hq : ∀ w : World, Sem.run Try.prog (binOp .neq 44 (.agg (vcl x)) (.agg (vcl x))) w = .ok (.bool false) w := fun w => neqV_self x w
    have HXc := hid (HXB.out.on HB5.out)
    have HBc := HB5
    by_cases hk : 1 ≤ k ∧ k ≤ 4
    · have HK := hid hk
      clear hk
      cases htk : takeV k xs with
      | none =>
        have HN := hid htk
        clear htk
        generalize (⟨xs.toArray⟩ : ByteArray) = sb at *
        go_wp2_with (go_at_call 23; refine (take_none HXc.out HK.out HN.out).mono ?_; rintro e w9 ⟨rfl, hb9⟩; have S9 := hid (below_on HBc.out hb9); clear hb9)
        go_ret
        exact ⟨rfl, S9.out.alloc S9.out.size _⟩
      | some z =>
        obtain ⟨y, r⟩ := z
        have HN := hid htk
        obtain ⟨-, e2, e3⟩ := takeV_back htk
        have HY := hid e2
        have HYS := hid (valid_len e2)
        have HLR : Hid (r.length ≤ 140737488355328) := by have := HLB.out; have := congrArg List.length e3; rw [List.length_append] at this; show r.length ≤ 140737488355328; omega
        have hcat := cat_bytes (valB y) r
        rw [e3] at hcat
        have hsz : ¬ 9223372036854775807 < (⟨(valB y).toArray⟩ : ByteArray).size + (⟨r.toArray⟩ : ByteArray).size := by
          have h1 := valB_len HYS.out
          have h2 := HLR.out
          have e1 : (⟨(valB y).toArray⟩ : ByteArray).size = (valB y).length := by simp [ByteArray.size]
          have e2 : (⟨r.toArray⟩ : ByteArray).size = r.length := by simp [ByteArray.size]
          rw [e1, e2]; omega
        clear htk e2 e3
        obtain ⟨sb, hsb⟩ : ∃ s : ByteArray, (⟨xs.toArray⟩ : ByteArray) = s := ⟨_, rfl⟩
        obtain ⟨sa, hsa⟩ : ∃ s : ByteArray, (⟨(valB y).toArray⟩ : ByteArray) = s := ⟨_, rfl⟩
        obtain ⟨sr, hsr⟩ : ∃ s : ByteArray, (⟨r.toArray⟩ : ByteArray) = s := ⟨_, rfl⟩
        rw [hsa, hsr] at hsz
        rw [hsa, hsr, hsb] at hcat
        rw [hsb] at cq1 cq2
        have HSB := hid hsb
        have HSA := hid hsa
        have HSR := hid hsr
        clear hsb hsa hsr
        have M2 : Hid True := trivial
        go_wp2_with (first
          | (go_at_call 23; have FIRST := M2; refine (take_some HXc.out HN.out HLR.out).mono ?_; rintro e w9 ⟨v9, rfl, ho9, hb9⟩; obtain ⟨p9, c9, rfl⟩ := ho9.form; have HO9 := hid (ho9.bat.on ((Below.refl _ w9).alloc (Nat.le_refl _) (.cells (vcl y) 44))); have S9 := hid ((below_on HBc.out hb9).alloc (below_on HBc.out hb9).size (.cells (vcl y) 44)); clear ho9 hb9 M2 FIRST)
          | (go_at_call 21; refine (put_ok (bat_nil _) HY.out (by simp) HYS.out).mono ?_; rintro e w10 ⟨v10, rfl, ho10, hb10⟩; rw [List.nil_append] at ho10; obtain ⟨p10, c10, rfl⟩ := ho10.form; have S10 := hid (below_on S9.out hb10); have d1 := conv_bat ho10.bat; have d2 := conv_bat (HO9.out.on hb10); have d3 := conv_bat (HXB.out.on S10.out); rw [HSA.out] at d1; rw [HSR.out] at d2; rw [HSB.out] at d3; clear ho10 hb10))
        go_ret
        exact ⟨rfl, S10.out⟩
    · have HK := hid hk
      clear hk
      generalize (⟨xs.toArray⟩ : ByteArray) = sb at *
      go_wp2_with (go_at_call 23; refine (take_bad HXc.out HK.out).mono ?_; rintro e w9 ⟨rfl, hb9⟩; have S9 := hid (below_on HBc.out hb9); clear hb9)
      go_ret
      exact ⟨rfl, S9.out.alloc S9.out.size _⟩
end Go.Proofs.Ytaccindmjaejdaa
