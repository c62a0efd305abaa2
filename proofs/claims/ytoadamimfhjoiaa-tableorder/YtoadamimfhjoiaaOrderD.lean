/-
  The walk of catchmentlaw02.TableOrder, one of its four ways.
-/
import Derived.Test.YtoadamimfhjoiaaOrderBase
namespace Go.Proofs.Ytoadamimfhjoiaa
open Go.RowKit Go.Sort Go.Shelf

set_option maxRecDepth 100000 in
set_option maxHeartbeats 2000000 in
theorem order_D {q p : Option Addr} {nc cap' n cap k m : Nat} {a : Int} {cs : List Cl} {hs : List Value} {rs : List Rw} {w : World} (hm : min n 200 = m) (hc : ColsAt w (.slice q nc cap') cs) (hr : SlAt any one 1 w (.slice p m cap) hs) (hh : HeadsIn any w hs rs) (hcap : n ≤ cap) (hnl : hs.length ≤ 4095)
    (ha0 : -9223372036854775808 ≤ a) (ha : a ≤ 9223372036854775807) (hkn : k ≤ m) (hneg : ¬ a < 0) (h0 : ¬ (0 : Int) < (m : Int)) (hk : k = 0) :
    Calls Try.prog 5 #[.agg #[.slice q nc cap', .slice p n cap], .int .i64 a] w fun e w' => e = .returned (.bool true) ∧ Below w.heap.size w w' := by
  have hlen : hs.length = m := by obtain ⟨p', c', e, _⟩ := hr; injection e with e1 e2 e3; exact e2.symm
  have hmc : m ≤ cap := by omega
  have HC := hid hc
  have HR := hid hr
  have HRt := hid (hr.take k (by omega))
  have hrd := hr.drop rfl k (by omega)
  obtain ⟨pd, hpd⟩ : ∃ pd, (if cap = k then p else Option.map (fun x => x.add k) p) = pd := ⟨_, rfl⟩
  rw [hpd] at hrd
  have HRd := hid hrd
  clear hrd
  have hkc : k ≤ cap := by omega
  have HH := hid hh
  have HNL := hid hnl
  have HLEN := hid hlen
  clear hc hr hh hnl hlen
  have HE := hid ((Below.refl w.heap.size w).alloc (Nat.le_refl _) (.cells #[.slice q nc cap', .slice p n cap] 25))
  have K0 := hid (alloc_block w (.cells #[.slice q nc cap', .slice p n cap] 25))
  go_enter Try.func5, Try.ntmps5
  go_wp2_with (first
    | (go_at_call 9; refine shown_any.mono ?_; rintro e w1 ⟨rfl, hb1⟩; have HB1 := hid (below_on HE.out hb1); have K1 := hid (block_on K0.out hb1); have k1 := block_cell K1.out; clear hb1)
    | (go_at_call 10; refine (cut_val hcap).mono ?_; rintro e w2 ⟨rfl, hb2⟩; rw [hm]; have HB2 := hid (below_on HB1.out hb2); have K2 := hid (block_on K1.out hb2); clear k1 hb2; have k2 := block_cell K2.out; have f2 := frozen_no K2.out))
  rw [show Value.int IntKind.i64 0 = Value.int IntKind.i64 (k : Int) by rw [hk]; rfl]
  clear hk
  have K3 : Hid (((w2.setCell ⟨w.heap.size, 0, none⟩ (.slice q nc cap')).setCell ⟨w.heap.size, 1, none⟩ (.slice p m cap)).heap[w.heap.size]? = some (.cells #[.slice q nc cap', .slice p m cap] 25 (0, 0))) := Joins.block_setCell (i := 1) (Joins.block_setCell (i := 0) K2.out (.slice q nc cap')) (.slice p m cap)
  have HB3 := hid (below_set (i := 1) (u := .slice p m cap) (below_set (i := 0) (u := .slice q nc cap') HB2.out (Nat.le_refl _)) (Nat.le_refl _))
  clear k2 f2 K0 K1 K2 HB1 HB2 HE hm hcap
  generalize ((w2.setCell ⟨w.heap.size, 0, none⟩ (.slice q nc cap')).setCell ⟨w.heap.size, 1, none⟩ (.slice p m cap)) = W3 at *
  have hW3 : w.heap.size < W3.heap.size := lt_of_block K3.out
  go_cut [7] (fun s7 wx => ∃ (b7 : Nat) (pr6 : Option Addr) (capr6 : Nat), s7 = .pointer (some ⟨b7, 0, none⟩) ∧ W3.heap.size ≤ b7 ∧ Hid (wx.heap[b7]? = some (.cells #[.slice q nc cap', .slice pr6 m capr6] 25 (0, 0))) ∧ Hid (SlAt any one 1 wx (.slice pr6 m capr6) (hs.drop k ++ hs.take k)) ∧ Hid (Below W3.heap.size W3 wx))
  case first =>
    refine wp_region_held_drew (S := fun w' => w'.heap[w.heap.size]? = some (.cells #[.slice q nc cap', .slice p m cap] 25 (0, 0))) (by kernel_rfl) K3.out (fun hH => ?_)
    refine wpAnyH_take (i := 0) (oi := { dst := some 28, op := Op.fieldAddr 25 (Operand.tmp 2) 0, type := 0, pos := "law.go:82", after := #[], guard := none }) (v := .pointer (some ⟨w.heap.size, 0, none⟩)) rfl (by kernel_rfl) (by kernel_rfl) (by kernel_rfl) (fun _ _ _ h => h) (Or.inl ⟨by rfl, ?tky⟩) hH ?tkr
    case tky =>
      intro w' hS'
      have k0 := block_cell hS'
      go_simp
      try (intro hcon; exfalso; omega)
    case tkr =>
    simp only [Act.put, List.setIfInBounds_toArray, List.set_cons_zero, List.set_cons_succ]
    refine wpAnyH_take (i := 1) (oi := { dst := some 29, op := Op.load 22 (Operand.tmp 28), type := 22, pos := "law.go:82", after := #[{ on := 0, ground := Ground.data }], guard := none }) (v := .slice q nc cap') rfl (by kernel_rfl) (by kernel_rfl) (by kernel_rfl) (fun _ _ _ h => h) (Or.inl ⟨by rfl, ?tky⟩) hH ?tkr
    case tky =>
      intro w' hS'
      have k0 := block_cell hS'
      go_simp
      try (intro hcon; exfalso; omega)
    case tkr =>
    simp only [Act.put, List.setIfInBounds_toArray, List.set_cons_zero, List.set_cons_succ]
    refine wpAnyH_take (i := 3) (oi := { dst := some 31, op := Op.fieldAddr 25 (Operand.tmp 2) 1, type := 0, pos := "law.go:82", after := #[], guard := none }) (v := .pointer (some ⟨w.heap.size, 1, none⟩)) rfl (by kernel_rfl) (by kernel_rfl) (by kernel_rfl) (fun _ _ _ h => h) (Or.inl ⟨by rfl, ?tky⟩) hH ?tkr
    case tky =>
      intro w' hS'
      have k0 := block_cell hS'
      go_simp
      try (intro hcon; exfalso; omega)
    case tkr =>
    simp only [Act.put, List.setIfInBounds_toArray, List.set_cons_zero, List.set_cons_succ]
    refine wpAnyH_take (i := 4) (oi := { dst := some 32, op := Op.load 23 (Operand.tmp 31), type := 23, pos := "law.go:82", after := #[{ on := 3, ground := Ground.data }], guard := none }) (v := .slice p m cap) rfl (by kernel_rfl) (by kernel_rfl) (by kernel_rfl) (fun _ _ _ h => h) (Or.inl ⟨by rfl, ?tky⟩) hH ?tkr
    case tky =>
      intro w' hS'
      have k0 := block_cell hS'
      go_simp
      try (intro hcon; exfalso; omega)
    case tkr =>
    simp only [Act.put, List.setIfInBounds_toArray, List.set_cons_zero, List.set_cons_succ]
    refine wpAnyH_take (i := 5) (oi := { dst := some 33, op := Op.move (Operand.tmp 6), type := 3, pos := "law.go:82", after := #[], guard := none }) (v := .int .i64 k) rfl (by kernel_rfl) (by kernel_rfl) (by kernel_rfl) (fun _ _ _ h => h) (Or.inl ⟨by rfl, ?tky⟩) hH ?tkr
    case tky =>
      intro w' hS'
      have k0 := block_cell hS'
      go_simp
      try (intro hcon; exfalso; omega)
    case tkr =>
    simp only [Act.put, List.setIfInBounds_toArray, List.set_cons_zero, List.set_cons_succ]
    refine wpAnyH_take (i := 6) (oi := { dst := some 34, op := Op.slice 23 (Operand.tmp 32) (some (Operand.tmp 33)) none none, type := 23, pos := "law.go:82", after := #[{ on := 4, ground := Ground.data }, { on := 5, ground := Ground.data }], guard := none }) (v := .slice pd (m - k) (cap - k)) rfl (by kernel_rfl) (by kernel_rfl) (by kernel_rfl) (fun _ _ _ h => h) (Or.inl ⟨by rfl, ?tky⟩) hH ?tkr
    case tky =>
      intro w' hS'
      have k0 := block_cell hS'
      go_simp
      try (intro hcon; exfalso; omega)
    case tkr =>
    simp only [Act.put, List.setIfInBounds_toArray, List.set_cons_zero, List.set_cons_succ]
    refine wpAnyH_take (i := 8) (oi := { dst := some 36, op := Op.fieldAddr 25 (Operand.tmp 2) 1, type := 0, pos := "law.go:82", after := #[], guard := none }) (v := .pointer (some ⟨w.heap.size, 1, none⟩)) rfl (by kernel_rfl) (by kernel_rfl) (by kernel_rfl) (fun _ _ _ h => h) (Or.inl ⟨by rfl, ?tky⟩) hH ?tkr
    case tky =>
      intro w' hS'
      have k0 := block_cell hS'
      go_simp
      try (intro hcon; exfalso; omega)
    case tkr =>
    simp only [Act.put, List.setIfInBounds_toArray, List.set_cons_zero, List.set_cons_succ]
    refine wpAnyH_take (i := 9) (oi := { dst := some 37, op := Op.load 23 (Operand.tmp 36), type := 23, pos := "law.go:82", after := #[{ on := 8, ground := Ground.data }], guard := none }) (v := .slice p m cap) rfl (by kernel_rfl) (by kernel_rfl) (by kernel_rfl) (fun _ _ _ h => h) (Or.inl ⟨by rfl, ?tky⟩) hH ?tkr
    case tky =>
      intro w' hS'
      have k0 := block_cell hS'
      go_simp
      try (intro hcon; exfalso; omega)
    case tkr =>
    simp only [Act.put, List.setIfInBounds_toArray, List.set_cons_zero, List.set_cons_succ]
    refine wpAnyH_take (i := 10) (oi := { dst := some 38, op := Op.move (Operand.tmp 6), type := 3, pos := "law.go:82", after := #[], guard := none }) (v := .int .i64 k) rfl (by kernel_rfl) (by kernel_rfl) (by kernel_rfl) (fun _ _ _ h => h) (Or.inl ⟨by rfl, ?tky⟩) hH ?tkr
    case tky =>
      intro w' hS'
      have k0 := block_cell hS'
      go_simp
      try (intro hcon; exfalso; omega)
    case tkr =>
    simp only [Act.put, List.setIfInBounds_toArray, List.set_cons_zero, List.set_cons_succ]
    refine wpAnyH_take (i := 11) (oi := { dst := some 39, op := Op.slice 23 (Operand.tmp 37) none (some (Operand.tmp 38)) none, type := 23, pos := "law.go:82", after := #[{ on := 9, ground := Ground.data }, { on := 10, ground := Ground.data }], guard := none }) (v := .slice p k cap) rfl (by kernel_rfl) (by kernel_rfl) (by kernel_rfl) (fun _ _ _ h => h) (Or.inl ⟨by rfl, ?tky⟩) hH ?tkr
    case tky =>
      intro w' hS'
      have k0 := block_cell hS'
      go_simp
      try (intro hcon; exfalso; omega)
    case tkr =>
    simp only [Act.put, List.setIfInBounds_toArray, List.set_cons_zero, List.set_cons_succ]
    refine wpAnyH_ready (rs := [2, 14]) (by kernel_rfl) (by simp) ?_
    refine AllReadyH.cons (o := { dst := some 30, op := Op.buildSlice 23 0 #[], type := 23, pos := "law.go:82", after := #[], guard := none }) rfl (fun K hK => ?_) (AllReadyH.cons (o := { dst := some 7, op := Op.alloc 25, type := 0, pos := "law.go:82", after := #[], guard := none }) rfl (fun K hK => ?_) AllReadyH.nil)
    · go_simp
      refine hK.out _ _ (blk_on hH _) (fun hH => ?_)
      clear hK
      refine wpAnyH_ready (rs := [7, 14]) (by kernel_rfl) (by simp) ?_
      refine AllReadyH.cons (o := { dst := some 35, op := Op.call { callee := Callee.builtin Builtin.append, args := #[Operand.tmp 30, Operand.tmp 34], argTypes := #[23, 23] }, type := 23, pos := "law.go:82", after := #[{ on := 2, ground := Ground.data }, { on := 6, ground := Ground.data }], guard := none }) rfl (fun K hK => ?_) (AllReadyH.cons (o := { dst := some 7, op := Op.alloc 25, type := 0, pos := "law.go:82", after := #[], guard := none }) rfl (fun K hK => ?_) AllReadyH.nil)
      · refine step_app elem35 one_len (heads_cells (HH.out.drop k)) rfl (.tmp 30) (.tmp 34) rfl (by simp [Act.eval]; try rfl) (by simp [Act.eval]; try rfl) (made1_d W3) (SlAt.on HRd.out (below_on HB3.out (below_ad W3 _))) (small1 (by simp; have := HNL.out; omega)) (by simp <;> omega) ?_
        intro v5 w5 hown5 hb5 hg5
        rw [List.nil_append] at hown5
        have HO5 := hid hown5
        have HB5 := hid ((below_ad W3 _).trans hb5)
        clear hown5 hb5
        refine hK.out _ _ (block_on K3.out HB5.out) (fun hH => ?_)
        clear hK hg5
        simp only [Act.put, List.setIfInBounds_toArray, List.set_cons_zero, List.set_cons_succ]
        refine wpAnyH_ready (rs := [12, 14]) (by kernel_rfl) (by simp) ?_
        refine AllReadyH.cons (o := { dst := some 40, op := Op.call { callee := Callee.builtin Builtin.append, args := #[Operand.tmp 35, Operand.tmp 39], argTypes := #[23, 23] }, type := 23, pos := "law.go:82", after := #[{ on := 7, ground := Ground.data }, { on := 11, ground := Ground.data }, { on := 7, ground := Ground.chain }], guard := none }) rfl (fun K hK => ?_) (AllReadyH.cons (o := { dst := some 7, op := Op.alloc 25, type := 0, pos := "law.go:82", after := #[], guard := none }) rfl (fun K hK => ?_) AllReadyH.nil)
        · refine step_app elem35 one_len (heads_cells (HH.out.take k)) rfl (.tmp 35) (.tmp 39) rfl (by simp [Act.eval]; try rfl) (by simp [Act.eval]; try rfl) (HO5.out) (SlAt.on HRt.out (below_on HB3.out HB5.out)) (small1 (by simp; have := HNL.out; omega)) (HB5.out.size) ?_
          intro v6 w6 hown6 hb6 hg6
          have hbd6 : (hs.drop k ++ hs.take k).length * bsz 1 ≤ 140737488355328 := small1 (by simp; have := HNL.out; omega)
          have hsl := own_ty hown6 one_len hbd6
          obtain ⟨pr6, capr6, rfl, -⟩ := id hsl
          have HS6 := hid hsl
          rw [show (hs.drop k ++ hs.take k).length = m by rw [List.length_append, List.length_drop, List.length_take, HLEN.out]; omega] at HS6 ⊢
          have HB6 := hid (HB5.out.trans hb6)
          clear hown6 hb6 hsl
          refine hK.out _ _ (block_on K3.out HB6.out) (fun hH => ?_)
          clear hK hg6
          simp only [Act.put, List.setIfInBounds_toArray, List.set_cons_zero, List.set_cons_succ]
          refine wpAnyH_take (i := 13) (oi := { dst := some 41, op := Op.build 25 #[(0, Operand.tmp 29), (1, Operand.tmp 40)], type := 25, pos := "law.go:82", after := #[{ on := 1, ground := Ground.data }, { on := 12, ground := Ground.data }], guard := none }) (v := .agg #[.slice q nc cap', .slice pr6 m capr6]) rfl (by kernel_rfl) (by kernel_rfl) (by kernel_rfl) (fun _ _ _ h => h) (Or.inl ⟨by rfl, ?tky⟩) hH ?tkr
          case tky =>
            intro w' hS'
            have k0 := block_cell hS'
            go_simp
            try (intro hcon; exfalso; omega)
          case tkr =>
          simp only [Act.put, List.setIfInBounds_toArray, List.set_cons_zero, List.set_cons_succ]
          refine wpAnyH_ready (rs := [14]) (by kernel_rfl) (by simp) ?_
          refine AllReadyH.cons (o := { dst := some 7, op := Op.alloc 25, type := 0, pos := "law.go:82", after := #[], guard := none }) rfl (fun K hK => ?_) AllReadyH.nil
          go_simp
          have KY := hid (alloc_block w6 (.cells #[.slice none 0 0, .slice none 0 0] 25))
          have HBY := hid (HB6.out.alloc HB6.out.size (.cells #[.slice none 0 0, .slice none 0 0] 25))
          have HSY := hid (ty_alloc HS6.out (.cells #[.slice none 0 0, .slice none 0 0] 25))
          refine hK.out _ _ (blk_on hH _) (fun hH => ?_)
          clear hK
          have kY := block_cell KY.out
          have fY := frozen_no KY.out
          refine wpAnyH_ready (rs := [15]) (by kernel_rfl) (by simp) ?_
          refine AllReadyH.cons (o := { dst := none, op := Op.store 25 (Operand.tmp 7) (Operand.tmp 41), type := 0, pos := "law.go:82", after := #[{ on := 14, ground := Ground.data }, { on := 13, ground := Ground.data }, { on := 12, ground := Ground.chain }, { on := 0, ground := Ground.phase }, { on := 1, ground := Ground.phase }, { on := 2, ground := Ground.phase }, { on := 3, ground := Ground.phase }, { on := 4, ground := Ground.phase }, { on := 5, ground := Ground.phase }, { on := 6, ground := Ground.phase }, { on := 7, ground := Ground.phase }, { on := 8, ground := Ground.phase }, { on := 9, ground := Ground.phase }, { on := 10, ground := Ground.phase }, { on := 11, ground := Ground.phase }, { on := 12, ground := Ground.phase }, { on := 13, ground := Ground.phase }, { on := 14, ground := Ground.phase }], guard := none }) rfl (fun K hK => ?_) AllReadyH.nil
          go_simp
          refine hK.out _ _ (blk_on (block_on K3.out HB6.out) _) (fun hH => ?_)
          clear hK
          refine wpAnyH_done (by kernel_rfl) ?_ _
          go_wp2_with fail
          go_meet
          case rel => exact ⟨w6.heap.size, pr6, capr6, rfl, HB6.out.size, alloc_block w6 (.cells #[.slice q nc cap', .slice pr6 m capr6] 25), (ty_alloc HS6.out (.cells #[.slice q nc cap', .slice pr6 m capr6] 25)).imp (fun _ _ => trivial), HB6.out.alloc HB6.out.size (.cells #[.slice q nc cap', .slice pr6 m capr6] 25)⟩
        · go_simp
          have KY := hid (alloc_block w5 (.cells #[.slice none 0 0, .slice none 0 0] 25))
          refine hK.out _ _ (blk_on hH _) (fun hH => ?_)
          clear hK
          refine wpAnyH_ready (rs := [12]) (by kernel_rfl) (by simp) ?_
          refine AllReadyH.cons (o := { dst := some 40, op := Op.call { callee := Callee.builtin Builtin.append, args := #[Operand.tmp 35, Operand.tmp 39], argTypes := #[23, 23] }, type := 23, pos := "law.go:82", after := #[{ on := 7, ground := Ground.data }, { on := 11, ground := Ground.data }, { on := 7, ground := Ground.chain }], guard := none }) rfl (fun K hK => ?_) AllReadyH.nil
          refine step_app elem35 one_len (heads_cells (HH.out.take k)) rfl (.tmp 35) (.tmp 39) rfl (by simp [Act.eval]; try rfl) (by simp [Act.eval]; try rfl) (HO5.out.on ((Below.refl _ _).alloc (Nat.le_refl _) _)) (SlAt.on HRt.out (below_on HB3.out (HB5.out.alloc HB5.out.size (.cells #[.slice none 0 0, .slice none 0 0] 25)))) (small1 (by simp; have := HNL.out; omega)) ((HB5.out.alloc HB5.out.size (.cells #[.slice none 0 0, .slice none 0 0] 25)).size) ?_
          intro v6 w6 hown6 hb6 hg6
          have hbd6 : (hs.drop k ++ hs.take k).length * bsz 1 ≤ 140737488355328 := small1 (by simp; have := HNL.out; omega)
          have hsl := own_ty hown6 one_len hbd6
          obtain ⟨pr6, capr6, rfl, -⟩ := id hsl
          have HS6 := hid hsl
          rw [show (hs.drop k ++ hs.take k).length = m by rw [List.length_append, List.length_drop, List.length_take, HLEN.out]; omega] at HS6 ⊢
          have HB6 := hid ((HB5.out.alloc HB5.out.size (.cells #[.slice none 0 0, .slice none 0 0] 25)).trans hb6)
          have KY6 := hid ((hg6.block w5.heap.size (by simp <;> omega) (own_ne25 (HO5.out.on ((Below.refl _ _).alloc (Nat.le_refl _) _)) KY.out)).trans KY.out)
          clear hown6 hb6 hsl
          refine hK.out _ _ (block_on K3.out HB6.out) (fun hH => ?_)
          clear hK hg6
          simp only [Act.put, List.setIfInBounds_toArray, List.set_cons_zero, List.set_cons_succ]
          refine wpAnyH_take (i := 13) (oi := { dst := some 41, op := Op.build 25 #[(0, Operand.tmp 29), (1, Operand.tmp 40)], type := 25, pos := "law.go:82", after := #[{ on := 1, ground := Ground.data }, { on := 12, ground := Ground.data }], guard := none }) (v := .agg #[.slice q nc cap', .slice pr6 m capr6]) rfl (by kernel_rfl) (by kernel_rfl) (by kernel_rfl) (fun _ _ _ h => h) (Or.inl ⟨by rfl, ?tky⟩) hH ?tkr
          case tky =>
            intro w' hS'
            have k0 := block_cell hS'
            go_simp
            try (intro hcon; exfalso; omega)
          case tkr =>
          simp only [Act.put, List.setIfInBounds_toArray, List.set_cons_zero, List.set_cons_succ]
          have kY := block_cell KY6.out
          have fY := frozen_no KY6.out
          refine wpAnyH_ready (rs := [15]) (by kernel_rfl) (by simp) ?_
          refine AllReadyH.cons (o := { dst := none, op := Op.store 25 (Operand.tmp 7) (Operand.tmp 41), type := 0, pos := "law.go:82", after := #[{ on := 14, ground := Ground.data }, { on := 13, ground := Ground.data }, { on := 12, ground := Ground.chain }, { on := 0, ground := Ground.phase }, { on := 1, ground := Ground.phase }, { on := 2, ground := Ground.phase }, { on := 3, ground := Ground.phase }, { on := 4, ground := Ground.phase }, { on := 5, ground := Ground.phase }, { on := 6, ground := Ground.phase }, { on := 7, ground := Ground.phase }, { on := 8, ground := Ground.phase }, { on := 9, ground := Ground.phase }, { on := 10, ground := Ground.phase }, { on := 11, ground := Ground.phase }, { on := 12, ground := Ground.phase }, { on := 13, ground := Ground.phase }, { on := 14, ground := Ground.phase }], guard := none }) rfl (fun K hK => ?_) AllReadyH.nil
          go_simp
          have hYw : w.heap.size ≠ w5.heap.size := by have := hW3; have h2 : W3.heap.size ≤ w5.heap.size := HB5.out.size; omega
          refine hK.out _ _ (far_set (far_set hH hYw) hYw) (fun hH => ?_)
          clear hK
          refine wpAnyH_done (by kernel_rfl) ?_ _
          go_wp2_with fail
          go_meet
          case rel => exact ⟨w5.heap.size, pr6, capr6, rfl, HB5.out.size, Joins.block_setCell (i := 1) (Joins.block_setCell (i := 0) KY6.out (.slice q nc cap')) (.slice pr6 m capr6), (SlAt.set (ty_far KY6.out) (SlAt.set (ty_far KY6.out) HS6.out)).imp (fun _ _ => trivial), below_set (below_set HB6.out (HB5.out.size)) (HB5.out.size)⟩
      · go_simp
        have KY := hid (alloc_blk2' W3 (.cells #[] 35) (.cells #[.slice none 0 0, .slice none 0 0] 25))
        refine hK.out _ _ (blk_on hH _) (fun hH => ?_)
        clear hK
        refine wpAnyH_ready (rs := [7]) (by kernel_rfl) (by simp) ?_
        refine AllReadyH.cons (o := { dst := some 35, op := Op.call { callee := Callee.builtin Builtin.append, args := #[Operand.tmp 30, Operand.tmp 34], argTypes := #[23, 23] }, type := 23, pos := "law.go:82", after := #[{ on := 2, ground := Ground.data }, { on := 6, ground := Ground.data }], guard := none }) rfl (fun K hK => ?_) AllReadyH.nil
        refine step_app elem35 one_len (heads_cells (HH.out.drop k)) rfl (.tmp 30) (.tmp 34) rfl (by simp [Act.eval]; try rfl) (by simp [Act.eval]; try rfl) (made1_3 W3 _) (SlAt.on HRd.out (below_on HB3.out (below_aad W3 _ _))) (small1 (by simp; have := HNL.out; omega)) (by simp <;> omega) ?_
        intro v5 w5 hown5 hb5 hg5
        rw [List.nil_append] at hown5
        have HO5 := hid hown5
        have HB5 := hid ((below_aad W3 _ _).trans hb5)
        have KY5 := hid ((hg5.block (W3.heap.size + 1) (by simp <;> omega) (by simp [Value.ownBlock])).trans KY.out)
        clear hown5 hb5
        refine hK.out _ _ (block_on K3.out HB5.out) (fun hH => ?_)
        clear hK hg5
        simp only [Act.put, List.setIfInBounds_toArray, List.set_cons_zero, List.set_cons_succ]
        refine wpAnyH_ready (rs := [12]) (by kernel_rfl) (by simp) ?_
        refine AllReadyH.cons (o := { dst := some 40, op := Op.call { callee := Callee.builtin Builtin.append, args := #[Operand.tmp 35, Operand.tmp 39], argTypes := #[23, 23] }, type := 23, pos := "law.go:82", after := #[{ on := 7, ground := Ground.data }, { on := 11, ground := Ground.data }, { on := 7, ground := Ground.chain }], guard := none }) rfl (fun K hK => ?_) AllReadyH.nil
        refine step_app elem35 one_len (heads_cells (HH.out.take k)) rfl (.tmp 35) (.tmp 39) rfl (by simp [Act.eval]; try rfl) (by simp [Act.eval]; try rfl) (HO5.out) (SlAt.on HRt.out (below_on HB3.out HB5.out)) (small1 (by simp; have := HNL.out; omega)) (HB5.out.size) ?_
        intro v6 w6 hown6 hb6 hg6
        have hbd6 : (hs.drop k ++ hs.take k).length * bsz 1 ≤ 140737488355328 := small1 (by simp; have := HNL.out; omega)
        have hsl := own_ty hown6 one_len hbd6
        obtain ⟨pr6, capr6, rfl, -⟩ := id hsl
        have HS6 := hid hsl
        rw [show (hs.drop k ++ hs.take k).length = m by rw [List.length_append, List.length_drop, List.length_take, HLEN.out]; omega] at HS6 ⊢
        have HB6 := hid (HB5.out.trans hb6)
        have KY6 := hid ((hg6.block (W3.heap.size + 1) (lt_of_block KY5.out) (own_ne25 HO5.out KY5.out)).trans KY5.out)
        clear hown6 hb6 hsl
        refine hK.out _ _ (block_on K3.out HB6.out) (fun hH => ?_)
        clear hK hg6
        simp only [Act.put, List.setIfInBounds_toArray, List.set_cons_zero, List.set_cons_succ]
        refine wpAnyH_take (i := 13) (oi := { dst := some 41, op := Op.build 25 #[(0, Operand.tmp 29), (1, Operand.tmp 40)], type := 25, pos := "law.go:82", after := #[{ on := 1, ground := Ground.data }, { on := 12, ground := Ground.data }], guard := none }) (v := .agg #[.slice q nc cap', .slice pr6 m capr6]) rfl (by kernel_rfl) (by kernel_rfl) (by kernel_rfl) (fun _ _ _ h => h) (Or.inl ⟨by rfl, ?tky⟩) hH ?tkr
        case tky =>
          intro w' hS'
          have k0 := block_cell hS'
          go_simp
          try (intro hcon; exfalso; omega)
        case tkr =>
        simp only [Act.put, List.setIfInBounds_toArray, List.set_cons_zero, List.set_cons_succ]
        have kY := block_cell KY6.out
        have fY := frozen_no KY6.out
        refine wpAnyH_ready (rs := [15]) (by kernel_rfl) (by simp) ?_
        refine AllReadyH.cons (o := { dst := none, op := Op.store 25 (Operand.tmp 7) (Operand.tmp 41), type := 0, pos := "law.go:82", after := #[{ on := 14, ground := Ground.data }, { on := 13, ground := Ground.data }, { on := 12, ground := Ground.chain }, { on := 0, ground := Ground.phase }, { on := 1, ground := Ground.phase }, { on := 2, ground := Ground.phase }, { on := 3, ground := Ground.phase }, { on := 4, ground := Ground.phase }, { on := 5, ground := Ground.phase }, { on := 6, ground := Ground.phase }, { on := 7, ground := Ground.phase }, { on := 8, ground := Ground.phase }, { on := 9, ground := Ground.phase }, { on := 10, ground := Ground.phase }, { on := 11, ground := Ground.phase }, { on := 12, ground := Ground.phase }, { on := 13, ground := Ground.phase }, { on := 14, ground := Ground.phase }], guard := none }) rfl (fun K hK => ?_) AllReadyH.nil
        go_simp
        have hYw : w.heap.size ≠ (W3.heap.size + 1) := by have := hW3; have h2 : W3.heap.size ≤ (W3.heap.size + 1) := Nat.le_succ _; omega
        refine hK.out _ _ (far_set (far_set hH hYw) hYw) (fun hH => ?_)
        clear hK
        refine wpAnyH_done (by kernel_rfl) ?_ _
        go_wp2_with fail
        go_meet
        case rel => exact ⟨(W3.heap.size + 1), pr6, capr6, rfl, Nat.le_succ _, Joins.block_setCell (i := 1) (Joins.block_setCell (i := 0) KY6.out (.slice q nc cap')) (.slice pr6 m capr6), (SlAt.set (ty_far KY6.out) (SlAt.set (ty_far KY6.out) HS6.out)).imp (fun _ _ => trivial), below_set (below_set HB6.out (Nat.le_succ _)) (Nat.le_succ _)⟩
    · go_simp
      have KY := hid (alloc_block W3 (.cells #[.slice none 0 0, .slice none 0 0] 25))
      refine hK.out _ _ (blk_on hH _) (fun hH => ?_)
      clear hK
      refine wpAnyH_ready (rs := [2]) (by kernel_rfl) (by simp) ?_
      refine AllReadyH.cons (o := { dst := some 30, op := Op.buildSlice 23 0 #[], type := 23, pos := "law.go:82", after := #[], guard := none }) rfl (fun K hK => ?_) AllReadyH.nil
      go_simp
      refine hK.out _ _ (blk_on hH _) (fun hH => ?_)
      clear hK
      refine wpAnyH_ready (rs := [7]) (by kernel_rfl) (by simp) ?_
      refine AllReadyH.cons (o := { dst := some 35, op := Op.call { callee := Callee.builtin Builtin.append, args := #[Operand.tmp 30, Operand.tmp 34], argTypes := #[23, 23] }, type := 23, pos := "law.go:82", after := #[{ on := 2, ground := Ground.data }, { on := 6, ground := Ground.data }], guard := none }) rfl (fun K hK => ?_) AllReadyH.nil
      refine step_app elem35 one_len (heads_cells (HH.out.drop k)) rfl (.tmp 30) (.tmp 34) rfl (by simp [Act.eval]; try rfl) (by simp [Act.eval]; try rfl) (made1_2 W3 _) (SlAt.on HRd.out (below_on HB3.out (below_aad W3 _ _))) (small1 (by simp; have := HNL.out; omega)) (by simp <;> omega) ?_
      intro v5 w5 hown5 hb5 hg5
      rw [List.nil_append] at hown5
      have HO5 := hid hown5
      have HB5 := hid ((below_aad W3 _ _).trans hb5)
      have KY5 := hid ((hg5.block W3.heap.size (by simp <;> omega) (by simp [Value.ownBlock])).trans (alloc_blk1' W3 _ _))
      clear hown5 hb5
      refine hK.out _ _ (block_on K3.out HB5.out) (fun hH => ?_)
      clear hK hg5
      simp only [Act.put, List.setIfInBounds_toArray, List.set_cons_zero, List.set_cons_succ]
      refine wpAnyH_ready (rs := [12]) (by kernel_rfl) (by simp) ?_
      refine AllReadyH.cons (o := { dst := some 40, op := Op.call { callee := Callee.builtin Builtin.append, args := #[Operand.tmp 35, Operand.tmp 39], argTypes := #[23, 23] }, type := 23, pos := "law.go:82", after := #[{ on := 7, ground := Ground.data }, { on := 11, ground := Ground.data }, { on := 7, ground := Ground.chain }], guard := none }) rfl (fun K hK => ?_) AllReadyH.nil
      refine step_app elem35 one_len (heads_cells (HH.out.take k)) rfl (.tmp 35) (.tmp 39) rfl (by simp [Act.eval]; try rfl) (by simp [Act.eval]; try rfl) (HO5.out) (SlAt.on HRt.out (below_on HB3.out HB5.out)) (small1 (by simp; have := HNL.out; omega)) (HB5.out.size) ?_
      intro v6 w6 hown6 hb6 hg6
      have hbd6 : (hs.drop k ++ hs.take k).length * bsz 1 ≤ 140737488355328 := small1 (by simp; have := HNL.out; omega)
      have hsl := own_ty hown6 one_len hbd6
      obtain ⟨pr6, capr6, rfl, -⟩ := id hsl
      have HS6 := hid hsl
      rw [show (hs.drop k ++ hs.take k).length = m by rw [List.length_append, List.length_drop, List.length_take, HLEN.out]; omega] at HS6 ⊢
      have HB6 := hid (HB5.out.trans hb6)
      have KY6 := hid ((hg6.block W3.heap.size (lt_of_block KY5.out) (own_ne25 HO5.out KY5.out)).trans KY5.out)
      clear hown6 hb6 hsl
      refine hK.out _ _ (block_on K3.out HB6.out) (fun hH => ?_)
      clear hK hg6
      simp only [Act.put, List.setIfInBounds_toArray, List.set_cons_zero, List.set_cons_succ]
      refine wpAnyH_take (i := 13) (oi := { dst := some 41, op := Op.build 25 #[(0, Operand.tmp 29), (1, Operand.tmp 40)], type := 25, pos := "law.go:82", after := #[{ on := 1, ground := Ground.data }, { on := 12, ground := Ground.data }], guard := none }) (v := .agg #[.slice q nc cap', .slice pr6 m capr6]) rfl (by kernel_rfl) (by kernel_rfl) (by kernel_rfl) (fun _ _ _ h => h) (Or.inl ⟨by rfl, ?tky⟩) hH ?tkr
      case tky =>
        intro w' hS'
        have k0 := block_cell hS'
        go_simp
        try (intro hcon; exfalso; omega)
      case tkr =>
      simp only [Act.put, List.setIfInBounds_toArray, List.set_cons_zero, List.set_cons_succ]
      have kY := block_cell KY6.out
      have fY := frozen_no KY6.out
      refine wpAnyH_ready (rs := [15]) (by kernel_rfl) (by simp) ?_
      refine AllReadyH.cons (o := { dst := none, op := Op.store 25 (Operand.tmp 7) (Operand.tmp 41), type := 0, pos := "law.go:82", after := #[{ on := 14, ground := Ground.data }, { on := 13, ground := Ground.data }, { on := 12, ground := Ground.chain }, { on := 0, ground := Ground.phase }, { on := 1, ground := Ground.phase }, { on := 2, ground := Ground.phase }, { on := 3, ground := Ground.phase }, { on := 4, ground := Ground.phase }, { on := 5, ground := Ground.phase }, { on := 6, ground := Ground.phase }, { on := 7, ground := Ground.phase }, { on := 8, ground := Ground.phase }, { on := 9, ground := Ground.phase }, { on := 10, ground := Ground.phase }, { on := 11, ground := Ground.phase }, { on := 12, ground := Ground.phase }, { on := 13, ground := Ground.phase }, { on := 14, ground := Ground.phase }], guard := none }) rfl (fun K hK => ?_) AllReadyH.nil
      go_simp
      have hYw : w.heap.size ≠ W3.heap.size := by have := hW3; have h2 : W3.heap.size ≤ W3.heap.size := Nat.le_refl _; omega
      refine hK.out _ _ (far_set (far_set hH hYw) hYw) (fun hH => ?_)
      clear hK
      refine wpAnyH_done (by kernel_rfl) ?_ _
      go_wp2_with fail
      go_meet
      case rel => exact ⟨W3.heap.size, pr6, capr6, rfl, Nat.le_refl _, Joins.block_setCell (i := 1) (Joins.block_setCell (i := 0) KY6.out (.slice q nc cap')) (.slice pr6 m capr6), (SlAt.set (ty_far KY6.out) (SlAt.set (ty_far KY6.out) HS6.out)).imp (fun _ _ => trivial), below_set (below_set HB6.out (Nat.le_refl _)) (Nat.le_refl _)⟩
  case rest =>
    obtain ⟨b7, pr6, capr6, rfl, hb7, K7, HS7, HB7⟩ := hcut
    have K2c := hid (block_on K3.out HB7.out)
    have k2c := block_cell K2c.out
    have l2c := lt_of_block K2c.out
    have HBc := hid (below_on HB3.out HB7.out)
    have hm4 : m ≤ 4095 := by have := HNL.out; rw [HLEN.out] at this; exact this
    clear HRt HRd HB3 K3
    go_wp2
    have KT0 := hid (alloc_block wc (.cells #[.slice q nc cap', .slice none 0 0] 25))
    have HE8 := hid ((Below.refl wc.heap.size wc).alloc (Nat.le_refl _) (.cells #[.slice q nc cap', .slice none 0 0] 25))
    have hsz8 : wc.heap.size + 1 ≤ (wc.alloc (.cells #[.slice q nc cap', .slice none 0 0] 25)).heap.size := by simp
    generalize (wc.alloc (.cells #[.slice q nc cap', .slice none 0 0] 25)) = W8 at *
    go_loopw [9] (fun i wr => ∃ (j : Nat) (rv : Value), j ≤ m ∧ i = .int .i64 ((m : Int) - 1 - (j : Int)) ∧ wc.heap.size + 1 ≤ wr.heap.size ∧ Hid (wr.heap[wc.heap.size]? = some (.cells #[.slice q nc cap', rv] 25 (0, 0))) ∧ Hid (Own one 1 35 (wc.heap.size + 1) wr rv (hs.reverse.take j)) ∧ Hid (Below wc.heap.size wc wr)) (fun i _ => ((intOf i) + 1).toNat)
    case atStart => exact ⟨0, _, by omega, (by first | (simp; done) | (simp [wrap64]; omega)), hsz8, KT0.out, Own.nil _ _ _ _ _, HE8.out⟩
    case round =>
      obtain ⟨j, rv, hj, rfl, hszr, HKT, HO, HB⟩ := hrel
      have K2r := hid (block_on K2c.out HB.out)
      by_cases hlt : j < m
      · obtain ⟨d, hdm⟩ : ∃ d, d + j + 1 = m := ⟨m - 1 - j, by omega⟩
        have hdi : (m : Int) - 1 - (j : Int) = (d : Int) := by omega
        rw [hdi]
        have hdh : d < hs.length := by rw [HLEN.out]; omega
        obtain ⟨b, o, rfl, hc0⟩ := sl_cell (HR.out) hdh
        have hcd := cell_on hc0 (below_on HBc.out HB.out)
        have HRow := hid (HH.out.2 d _ _ (get!_some hdh) (get!_some (by rw [← HH.out.1]; exact hdh)))
        have HTK := hid (rev_snoc (hs := hs) (j := j) (d := d) (by rw [HLEN.out]; exact hdm))
        generalize hs[d]! = hd0 at hcd HRow HTK
        have hcw := hc0
        clear hc0
        obtain ⟨px, capx, rfl, -⟩ := id HRow.out
        generalize List.length rs[d]! = lr at *
        have kT := block_cell HKT.out
        have kTa : ∀ (A : Obj) (i : Nat), (wr.alloc A).cell? ⟨wc.heap.size, i, none⟩ = (#[.slice q nc cap', rv] : Array Value)[i]? := fun A i => block_cell (blk_on HKT.out A) i
        go_wp2_with fail
        refine wp_region_held_drew (S := (fun w' => w'.heap[w.heap.size]? = some (.cells #[.slice q nc cap', .slice (some ⟨b, o, none⟩) m cap] 25 (0, 0)) ∧ True ∧ w'.cell? ⟨b, o + d, none⟩ = some (.slice px lr capx))) (by kernel_rfl) ⟨K2r.out, trivial, hcd⟩ (fun hH => ?_)
        refine wpAnyH_take (i := 0) (oi := { dst := some 53, op := Op.fieldAddr 25 (Operand.tmp 8) 1, type := 0, pos := "law.go:85", after := #[], guard := none }) (v := .pointer (some ⟨wc.heap.size, 1, none⟩)) rfl (by kernel_rfl) (by kernel_rfl) (by kernel_rfl) (fun _ _ _ h => h) (Or.inl ⟨by rfl, ?tky⟩) hH ?tkr
        case tky =>
          intro w' hS'
          have s0 := block_cell hS'.1
          have s2 := hS'.2.2
          go_simp
          try (intro hcon; exfalso; omega)
        case tkr =>
        simp only [Act.put, List.setIfInBounds_toArray, List.set_cons_zero, List.set_cons_succ]
        refine wpAnyH_take (i := 2) (oi := { dst := some 55, op := Op.fieldAddr 25 (Operand.tmp 2) 1, type := 0, pos := "law.go:85", after := #[], guard := none }) (v := .pointer (some ⟨w.heap.size, 1, none⟩)) rfl (by kernel_rfl) (by kernel_rfl) (by kernel_rfl) (fun _ _ _ h => h) (Or.inl ⟨by rfl, ?tky⟩) hH ?tkr
        case tky =>
          intro w' hS'
          have s0 := block_cell hS'.1
          have s2 := hS'.2.2
          go_simp
          try (intro hcon; exfalso; omega)
        case tkr =>
        simp only [Act.put, List.setIfInBounds_toArray, List.set_cons_zero, List.set_cons_succ]
        refine wpAnyH_take (i := 3) (oi := { dst := some 56, op := Op.load 23 (Operand.tmp 55), type := 23, pos := "law.go:85", after := #[{ on := 2, ground := Ground.data }], guard := none }) (v := .slice (some ⟨b, o, none⟩) m cap) rfl (by kernel_rfl) (by kernel_rfl) (by kernel_rfl) (fun _ _ _ h => h) (Or.inl ⟨by rfl, ?tky⟩) hH ?tkr
        case tky =>
          intro w' hS'
          have s0 := block_cell hS'.1
          have s2 := hS'.2.2
          go_simp
          try (intro hcon; exfalso; omega)
        case tkr =>
        simp only [Act.put, List.setIfInBounds_toArray, List.set_cons_zero, List.set_cons_succ]
        refine wpAnyH_take (i := 4) (oi := { dst := some 57, op := Op.move (Operand.tmp 9), type := 3, pos := "law.go:85", after := #[], guard := none }) (v := .int .i64 d) rfl (by kernel_rfl) (by kernel_rfl) (by kernel_rfl) (fun _ _ _ h => h) (Or.inl ⟨by rfl, ?tky⟩) hH ?tkr
        case tky =>
          intro w' hS'
          have s0 := block_cell hS'.1
          have s2 := hS'.2.2
          go_simp
          try (intro hcon; exfalso; omega)
        case tkr =>
        simp only [Act.put, List.setIfInBounds_toArray, List.set_cons_zero, List.set_cons_succ]
        refine wpAnyH_take (i := 5) (oi := { dst := some 58, op := Op.indexAddr 23 (Operand.tmp 56) (Operand.tmp 57), type := 0, pos := "law.go:85", after := #[{ on := 3, ground := Ground.data }, { on := 4, ground := Ground.data }], guard := none }) (v := .pointer (some ⟨b, o + d, none⟩)) rfl (by kernel_rfl) (by kernel_rfl) (by kernel_rfl) (fun _ _ _ h => h) (Or.inl ⟨by rfl, ?tky⟩) hH ?tkr
        case tky =>
          intro w' hS'
          have s0 := block_cell hS'.1
          have s2 := hS'.2.2
          go_simp
          try (intro hcon; exfalso; omega)
        case tkr =>
        simp only [Act.put, List.setIfInBounds_toArray, List.set_cons_zero, List.set_cons_succ]
        refine wpAnyH_take (i := 6) (oi := { dst := some 59, op := Op.load 35 (Operand.tmp 58), type := 35, pos := "law.go:85", after := #[{ on := 5, ground := Ground.data }], guard := none }) (v := .slice px lr capx) rfl (by kernel_rfl) (by kernel_rfl) (by kernel_rfl) (fun _ _ _ h => h) (Or.inl ⟨by rfl, ?tky⟩) hH ?tkr
        case tky =>
          intro w' hS'
          have s0 := block_cell hS'.1
          have s2 := hS'.2.2
          go_simp
          try (intro hcon; exfalso; omega)
        case tkr =>
        simp only [Act.put, List.setIfInBounds_toArray, List.set_cons_zero, List.set_cons_succ]
        refine wpAnyH_ready (rs := [1, 7]) (by kernel_rfl) (by simp) ?_
        refine AllReadyH.cons (o := { dst := some 54, op := Op.load 23 (Operand.tmp 53), type := 23, pos := "law.go:85", after := #[{ on := 0, ground := Ground.data }], guard := none }) rfl (fun K hK => ?_) (AllReadyH.cons (o := { dst := some 60, op := Op.buildSlice 23 1 #[(0, Operand.tmp 59)], type := 23, pos := "law.go:85", after := #[{ on := 6, ground := Ground.data }], guard := none }) rfl (fun K hK => ?_) AllReadyH.nil)
        · go_simp
          refine hK.out _ _ hH (fun hH => ?_)
          clear hK
          refine wpAnyH_ready (rs := [7]) (by kernel_rfl) (by simp) ?_
          refine AllReadyH.cons (o := { dst := some 60, op := Op.buildSlice 23 1 #[(0, Operand.tmp 59)], type := 23, pos := "law.go:85", after := #[{ on := 6, ground := Ground.data }], guard := none }) rfl (fun K hK => ?_) AllReadyH.nil
          go_simp
          refine hK.out _ _ ⟨blk_on hH.1 _, trivial, cell_on hcd (below_ad wr _)⟩ (fun hH => ?_)
          clear hK
          refine wpAnyH_ready (rs := [8]) (by kernel_rfl) (by simp) ?_
          refine AllReadyH.cons (o := { dst := some 61, op := Op.call { callee := Callee.builtin Builtin.append, args := #[Operand.tmp 54, Operand.tmp 60], argTypes := #[23, 23] }, type := 23, pos := "law.go:85", after := #[{ on := 1, ground := Ground.data }, { on := 7, ground := Ground.data }], guard := none }) rfl (fun K hK => ?_) AllReadyH.nil
          refine step_head rfl (.tmp 54) (.tmp 60) rfl (by simp [Act.eval]; try rfl) (by simp [Act.eval]; try rfl) (HO.out.on (below_ad wr _)) (alloc_block wr _) rfl (by simp; have := HNL.out; omega) (by simp; omega) ?_
          intro v3 w3 hown3 hb3 hg3
          rw [← HTK.out] at hown3
          have hl3 : (hs.reverse.take (j + 1)).length = j + 1 := by simp; have := HLEN.out; omega
          have HO3 := hid hown3
          have HB3 := hid hb3
          obtain ⟨g', cap3, rfl⟩ := Joins.ownsRow_form hown3 (by rw [hl3]; omega)
          rw [hl3] at HO3 ⊢
          have KT3 := hid ((hb3.block wc.heap.size (by omega)).trans (blk_on HKT.out _))
          have K23 := hid ((hb3.block w.heap.size (by omega)).trans (blk_on K2r.out _))
          have hcd3 : w3.cell? ⟨b, o + d, none⟩ = some (.slice px lr capx) := (hb3.cell (p := ⟨b, o + d, none⟩) (Nat.lt_succ_of_lt (Nat.lt_of_lt_of_le (block_lt_of_cell hcw) HBc.out.size))).trans (cell_on hcd (below_ad wr _))
          have kT3 := block_cell KT3.out
          have fT3 := frozen_no KT3.out
          clear hown3 hb3 hg3
          refine hK.out _ _ ⟨K23.out, trivial, hcd3⟩ (fun hH => ?_)
          clear hK
          simp only [Act.put, List.setIfInBounds_toArray, List.set_cons_zero, List.set_cons_succ]
          refine wpAnyH_ready (rs := [9]) (by kernel_rfl) (by simp) ?_
          refine AllReadyH.cons (o := { dst := some 62, op := Op.fieldAddr 25 (Operand.tmp 8) 1, type := 0, pos := "law.go:85", after := #[{ on := 0, ground := Ground.phase }, { on := 1, ground := Ground.phase }, { on := 2, ground := Ground.phase }, { on := 3, ground := Ground.phase }, { on := 4, ground := Ground.phase }, { on := 5, ground := Ground.phase }, { on := 6, ground := Ground.phase }, { on := 7, ground := Ground.phase }, { on := 8, ground := Ground.phase }], guard := none }) rfl (fun K hK => ?_) AllReadyH.nil
          go_simp
          refine hK.out _ _ hH (fun hH => ?_)
          clear hK
          refine wpAnyH_ready (rs := [10]) (by kernel_rfl) (by simp) ?_
          refine AllReadyH.cons (o := { dst := none, op := Op.store 23 (Operand.tmp 62) (Operand.tmp 61), type := 0, pos := "law.go:85", after := #[{ on := 9, ground := Ground.data }, { on := 8, ground := Ground.data }, { on := 8, ground := Ground.chain }, { on := 0, ground := Ground.phase }, { on := 1, ground := Ground.phase }, { on := 2, ground := Ground.phase }, { on := 3, ground := Ground.phase }, { on := 4, ground := Ground.phase }, { on := 5, ground := Ground.phase }, { on := 6, ground := Ground.phase }, { on := 7, ground := Ground.phase }, { on := 8, ground := Ground.phase }], guard := none }) rfl (fun K hK => ?_) AllReadyH.nil
          go_simp
          refine hK.out _ _ ⟨far_set K23.out (by omega), trivial, cell_set_far hcd3 (Nat.ne_of_lt (Nat.lt_of_lt_of_le (block_lt_of_cell hcw) HBc.out.size))⟩ (fun hH => ?_)
          clear hK
          refine wpAnyH_done (by kernel_rfl) ?_ _
          go_wp2
          go_roundw
          case rel => exact ⟨j + 1, _, by omega, congrArg (Value.int .i64) (by first | omega | (unfold wrap64; omega)), by rw [World.size_setCell]; exact Nat.le_trans hszr (Nat.le_trans (below_ad wr _).size HB3.out.size), Joins.block_setCell (i := 1) KT3.out _, own_set HO3.out (by omega), below_set (HB.out.trans (((below_ad wr _).mono HB.out.size).trans (HB3.out.mono (by omega)))) (Nat.le_refl _)⟩
          case measure => first | (simp [intOf]; done) | (simp [intOf]; omega)
        · go_simp
          refine hK.out _ _ ⟨blk_on hH.1 _, trivial, cell_on hcd (below_ad wr _)⟩ (fun hH => ?_)
          clear hK
          refine wpAnyH_ready (rs := [1]) (by kernel_rfl) (by simp) ?_
          refine AllReadyH.cons (o := { dst := some 54, op := Op.load 23 (Operand.tmp 53), type := 23, pos := "law.go:85", after := #[{ on := 0, ground := Ground.data }], guard := none }) rfl (fun K hK => ?_) AllReadyH.nil
          go_simp
          refine hK.out _ _ hH (fun hH => ?_)
          clear hK
          refine wpAnyH_ready (rs := [8]) (by kernel_rfl) (by simp) ?_
          refine AllReadyH.cons (o := { dst := some 61, op := Op.call { callee := Callee.builtin Builtin.append, args := #[Operand.tmp 54, Operand.tmp 60], argTypes := #[23, 23] }, type := 23, pos := "law.go:85", after := #[{ on := 1, ground := Ground.data }, { on := 7, ground := Ground.data }], guard := none }) rfl (fun K hK => ?_) AllReadyH.nil
          refine step_head rfl (.tmp 54) (.tmp 60) rfl (by simp [Act.eval]; try rfl) (by simp [Act.eval]; try rfl) (HO.out.on (below_ad wr _)) (alloc_block wr _) rfl (by simp; have := HNL.out; omega) (by simp; omega) ?_
          intro v3 w3 hown3 hb3 hg3
          rw [← HTK.out] at hown3
          have hl3 : (hs.reverse.take (j + 1)).length = j + 1 := by simp; have := HLEN.out; omega
          have HO3 := hid hown3
          have HB3 := hid hb3
          obtain ⟨g', cap3, rfl⟩ := Joins.ownsRow_form hown3 (by rw [hl3]; omega)
          rw [hl3] at HO3 ⊢
          have KT3 := hid ((hb3.block wc.heap.size (by omega)).trans (blk_on HKT.out _))
          have K23 := hid ((hb3.block w.heap.size (by omega)).trans (blk_on K2r.out _))
          have hcd3 : w3.cell? ⟨b, o + d, none⟩ = some (.slice px lr capx) := (hb3.cell (p := ⟨b, o + d, none⟩) (Nat.lt_succ_of_lt (Nat.lt_of_lt_of_le (block_lt_of_cell hcw) HBc.out.size))).trans (cell_on hcd (below_ad wr _))
          have kT3 := block_cell KT3.out
          have fT3 := frozen_no KT3.out
          clear hown3 hb3 hg3
          refine hK.out _ _ ⟨K23.out, trivial, hcd3⟩ (fun hH => ?_)
          clear hK
          simp only [Act.put, List.setIfInBounds_toArray, List.set_cons_zero, List.set_cons_succ]
          refine wpAnyH_ready (rs := [9]) (by kernel_rfl) (by simp) ?_
          refine AllReadyH.cons (o := { dst := some 62, op := Op.fieldAddr 25 (Operand.tmp 8) 1, type := 0, pos := "law.go:85", after := #[{ on := 0, ground := Ground.phase }, { on := 1, ground := Ground.phase }, { on := 2, ground := Ground.phase }, { on := 3, ground := Ground.phase }, { on := 4, ground := Ground.phase }, { on := 5, ground := Ground.phase }, { on := 6, ground := Ground.phase }, { on := 7, ground := Ground.phase }, { on := 8, ground := Ground.phase }], guard := none }) rfl (fun K hK => ?_) AllReadyH.nil
          go_simp
          refine hK.out _ _ hH (fun hH => ?_)
          clear hK
          refine wpAnyH_ready (rs := [10]) (by kernel_rfl) (by simp) ?_
          refine AllReadyH.cons (o := { dst := none, op := Op.store 23 (Operand.tmp 62) (Operand.tmp 61), type := 0, pos := "law.go:85", after := #[{ on := 9, ground := Ground.data }, { on := 8, ground := Ground.data }, { on := 8, ground := Ground.chain }, { on := 0, ground := Ground.phase }, { on := 1, ground := Ground.phase }, { on := 2, ground := Ground.phase }, { on := 3, ground := Ground.phase }, { on := 4, ground := Ground.phase }, { on := 5, ground := Ground.phase }, { on := 6, ground := Ground.phase }, { on := 7, ground := Ground.phase }, { on := 8, ground := Ground.phase }], guard := none }) rfl (fun K hK => ?_) AllReadyH.nil
          go_simp
          refine hK.out _ _ ⟨far_set K23.out (by omega), trivial, cell_set_far hcd3 (Nat.ne_of_lt (Nat.lt_of_lt_of_le (block_lt_of_cell hcw) HBc.out.size))⟩ (fun hH => ?_)
          clear hK
          refine wpAnyH_done (by kernel_rfl) ?_ _
          go_wp2
          go_roundw
          case rel => exact ⟨j + 1, _, by omega, congrArg (Value.int .i64) (by first | omega | (unfold wrap64; omega)), by rw [World.size_setCell]; exact Nat.le_trans hszr (Nat.le_trans (below_ad wr _).size HB3.out.size), Joins.block_setCell (i := 1) KT3.out _, own_set HO3.out (by omega), below_set (HB.out.trans (((below_ad wr _).mono HB.out.size).trans (HB3.out.mono (by omega)))) (Nat.le_refl _)⟩
          case measure => first | (simp [intOf]; done) | (simp [intOf]; omega)
      · have hjm : j = m := by omega
        subst hjm
        have hdi : (j : Int) - 1 - (j : Int) = -1 := by omega
        rw [hdi]
        have hl8 : (hs.reverse.take j).length = j := by simp; have := HLEN.out; omega
        have hsl8 := (Own.sl HO.out one_len (small1 (by rw [hl8]; omega))).imp (Q' := any) (fun _ _ => trivial)
        obtain ⟨pr8, capr8, rfl, -⟩ := id hsl8
        rw [hl8] at hsl8 HKT
        rw [List.take_of_length_le (by simp; have := HLEN.out; omega)] at hsl8
        have hbw := below_on HBc.out HB.out
        have HT2 : Hid (TabAt wr (.agg #[.slice q nc cap', .slice p j cap]) cs rs) := ⟨_, _, rfl, HC.out.on hbw, hs, HR.out.on hbw, HH.out.on hbw⟩
        have HT7 : Hid (TabAt wr (.agg #[.slice q nc cap', .slice pr6 j capr6]) cs (rs.drop k ++ rs.take k)) := ⟨_, _, rfl, HC.out.on hbw, _, HS7.out.on HB.out, ((HH.out.drop k).app (HH.out.take k)).on hbw⟩
        have HT8 : Hid (TabAt wr (.agg #[.slice q nc cap', .slice pr8 j capr8]) cs rs.reverse) := ⟨_, _, rfl, HC.out.on hbw, _, hsl8, (heads_rev HH.out).on hbw⟩
        have HRL : Hid (rs.length = j) := by rw [← HH.out.1, HLEN.out]; exact rfl
        have HBR := hid hbw
        have K7r := hid (block_on K7.out HB.out)
        have k2 := block_cell K2r.out
        clear hsl8 HS7 HO HR hbw
        have AL := hid (fun (W : World) (o : Obj) => (Below.refl W.heap.size W).alloc (Nat.le_refl _) o)
        go_wp2_with (first
          | (go_at_call 18; refine (canonT' HT2.out).mono ?_; rintro e w9 ⟨pc9, capc9, pr9, capr9, rfl, ht9, hb9⟩; rw [HRL.out] at ht9 ⊢; have HT9 := hid ht9; have HB9 := hid hb9; clear ht9 hb9 k2))
        have K2b := hid (blk_on (block_on K2r.out HB9.out) (.cells #[.slice pc9 cs.length capc9, .slice pr9 j capr9] 25))
        have K7b := hid (blk_on (block_on K7r.out HB9.out) (.cells #[.slice pc9 cs.length capc9, .slice pr9 j capr9] 25))
        have KTb := hid (blk_on (block_on HKT.out HB9.out) (.cells #[.slice pc9 cs.length capc9, .slice pr9 j capr9] 25))
        have KXb := hid (alloc_block w9 (.cells #[.slice pc9 cs.length capc9, .slice pr9 j capr9] 25))
        have HBb := hid (below_on HB9.out (AL.out w9 (.cells #[.slice pc9 cs.length capc9, .slice pr9 j capr9] 25)))
        have HT9b := hid (HT9.out.on (AL.out w9 (.cells #[.slice pc9 cs.length capc9, .slice pr9 j capr9] 25)))
        generalize (w9.alloc (.cells #[.slice pc9 cs.length capc9, .slice pr9 j capr9] 25)) = WB at *
        have E8 : Hid (∀ W', Below WB.heap.size WB W' → W'.cell? ⟨w.heap.size, 0, none⟩ = some (.slice q nc cap') ∧ W'.cell? ⟨w.heap.size, 1, none⟩ = some (.slice p j cap) ∧ W'.cell? ⟨b7, 0, none⟩ = some (.slice q nc cap') ∧ W'.cell? ⟨b7, 1, none⟩ = some (.slice pr6 j capr6) ∧ W'.cell? ⟨wc.heap.size, 0, none⟩ = some (.slice q nc cap') ∧ W'.cell? ⟨wc.heap.size, 1, none⟩ = some (.slice pr8 j capr8) ∧ W'.cell? ⟨w9.heap.size, 0, none⟩ = some (.slice pc9 cs.length capc9) ∧ W'.cell? ⟨w9.heap.size, 1, none⟩ = some (.slice pr9 j capr9)) := fun W' hb => ⟨block_cell (block_on K2b.out hb) 0, block_cell (block_on K2b.out hb) 1, block_cell (block_on K7b.out hb) 0, block_cell (block_on K7b.out hb) 1, block_cell (block_on KTb.out hb) 0, block_cell (block_on KTb.out hb) 1, block_cell (block_on KXb.out hb) 0, block_cell (block_on KXb.out hb) 1⟩
        have HLd : Hid ((rs.drop k ++ rs.take k).length = j) := by rw [(turned_perm rs k).length_eq]; exact HRL.out
        have HLr : Hid (rs.reverse.length = j) := by rw [List.length_reverse]; exact HRL.out
        have P1 := hid (sortR_perm_eq (turned_perm rs k))
        have P2 := hid (sortR_perm_eq (List.reverse_perm rs))
        have M1 : Hid True := trivial
        have M2 : Hid True := trivial
        have M3 : Hid True := trivial
        clear K2b K7b KTb KXb K7r HKT K2r
        go_region_held (fun w' => w'.cell? ⟨w.heap.size, 0, none⟩ = some (.slice q nc cap') ∧ w'.cell? ⟨w.heap.size, 1, none⟩ = some (.slice p j cap) ∧ w'.cell? ⟨b7, 0, none⟩ = some (.slice q nc cap') ∧ w'.cell? ⟨b7, 1, none⟩ = some (.slice pr6 j capr6) ∧ w'.cell? ⟨wc.heap.size, 0, none⟩ = some (.slice q nc cap') ∧ w'.cell? ⟨wc.heap.size, 1, none⟩ = some (.slice pr8 j capr8) ∧ w'.cell? ⟨w9.heap.size, 0, none⟩ = some (.slice pc9 cs.length capc9) ∧ w'.cell? ⟨w9.heap.size, 1, none⟩ = some (.slice pr9 j capr9)) (first | exact E8.out _ HD4.out | exact E8.out _ HD3.out | exact E8.out _ HD2.out | exact E8.out _ HD1.out | exact E8.out _ (below_d _) | exact E8.out _ (Below.refl _ _))
          (first
            | (go_at_call 18; clear M1; refine (canonT' (HT7.out.on (below_on HBb.out (by first | exact below_d _ | exact Below.refl _ _)))).mono ?_; rintro e wd1 ⟨pd1, cd1, qd1, dd1, rfl, htd1, hbd1⟩; rw [P1.out, HLd.out] at htd1; rw [HLd.out]; have HTd1 := hid htd1; have HD1 : Hid (Below WB.heap.size WB wd1) := (by first | exact below_on (below_d _) hbd1 | exact hbd1); clear htd1 hbd1)
            | (go_at_call 21; clear M2; refine (same_is (HT9b.out.on HD1.out) HTd1.out (sameB_self _ _)).mono ?_; rintro e wd2 ⟨rfl, hbd2⟩; have HD2 := hid (below_on HD1.out hbd2); clear hbd2)
            | (go_at_call 18; clear M3; refine (canonT' (HT8.out.on (below_on HBb.out HD2.out))).mono ?_; rintro e wd3 ⟨pd3, cd3, qd3, dd3, rfl, htd3, hbd3⟩; rw [P2.out, HLr.out] at htd3; rw [HLr.out]; have HTd3 := hid htd3; have HD3 := hid (below_on HD2.out hbd3); clear htd3 hbd3)
            | (go_at_call 21; refine (same_is (HT9b.out.on HD3.out) HTd3.out (sameB_self _ _)).mono ?_; rintro e wd4 ⟨rfl, hbd4⟩; have HD4 := hid (below_on HD3.out hbd4); clear hbd4))
        all_goals
          go_wp2
          go_ret
          exact ⟨rfl, below_on HBR.out (below_on HBb.out HD4.out)⟩
end Go.Proofs.Ytoadamimfhjoiaa
