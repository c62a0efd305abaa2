/-
  A node's test is made.
  The nodes that a node stands on, all of them.
  Print's isTree, walked.
  An append onto a row of one's own, within a region that is walked in order.
  Print's writer says words.
-/
import Derived.Test.YtjekpclbedbaoaaKS05
import Derived.Test.YtjekpclbedbaoaaKS11
import Derived.Test.YtjekpclbedbaoaaKS17
import Derived.Laws.MakeOwn
namespace Go.Proofs.Ytjekpclbedbaoaa.PD
open Go.RowKit Go.Joins

def OvP (c : Int) (fv : Value) (w : World) (x : Ending) (w' : World) : Prop := ∃ cb fb, x = .returned (.func (.func 99) #[] #[dp cb, dp fb]) ∧ w'.heap[cb]? = some (.cells #[.int .i64 c] 3 (0, 0)) ∧ w'.heap[fb]? = some (.cells #[fv] 92 (0, 0)) ∧ Below w.heap.size w w'
set_option maxRecDepth 100000 in
set_option maxHeartbeats 1000000 in
theorem ofValue_any (c : Int) (F : Nat) (nb : Nat) (w : World) : Calls Try.prog 74 #[.int .i64 c, .func (.func F) #[] #[dp nb]] w (OvP c (.func (.func F) #[] #[dp nb]) w) := by
  have hB1 : Below w.heap.size w (w.alloc (.cells #[.int .i64 c] 3)) := (Below.refl _ _).alloc (Nat.le_refl _) _
  have hB2 : Below (w.alloc (.cells #[.int .i64 c] 3)).heap.size (w.alloc (.cells #[.int .i64 c] 3)) ((w.alloc (.cells #[.int .i64 c] 3)).alloc (.cells #[.func (.func F) #[] #[dp nb]] 92)) := (Below.refl _ _).alloc (Nat.le_refl _) _
  have HP : Hid (OvP c (.func (.func F) #[] #[dp nb]) w (.returned (.func (.func 99) #[] #[dp w.heap.size, dp (w.heap.size + 1)])) ((w.alloc (.cells #[.int .i64 c] 3)).alloc (.cells #[.func (.func F) #[] #[dp nb]] 92))) := by
    refine ⟨w.heap.size, w.heap.size + 1, rfl, ?_, ?_, hB1.trans (hB2.mono (by simp))⟩
    · have := block_on (alloc_block w (.cells #[.int .i64 c] 3)) hB2
      exact this
    · have := alloc_block (w.alloc (.cells #[.int .i64 c] 3)) (.cells #[.func (.func F) #[] #[dp nb]] 92)
      have h2 : ((w.alloc (.cells #[.int .i64 c] 3)).alloc (.cells #[.func (.func F) #[] #[dp nb]] 92)).heap[w.heap.size + 1]? = some (.cells #[.func (.func F) #[] #[dp nb]] 92 (0, 0)) := by simpa using this
      exact h2
  clear hB1 hB2
  have hmf : ∀ (fn : Fn) (first cap : Array Value) (w : World), (Instr.makeFunc fn first cap).run Try.prog w = .ok (.func fn first cap) w := fun _ _ _ _ => rfl
  go_enter Try.func74, Try.ntmps74
  go_wp2_with fail
  go_ret
  exact HP.out
def NtP (hd n : Nat) (cs : List TN.Cl) (q : Nx) (i : Nat) (w : World) (x : Ending) (w' : World) : Prop := ∃ tv, x = .returned tv ∧ tv.oneCell' = true ∧ Tst hd n cs q i w' tv ∧ Below w.heap.size w w'
theorem bel_one {q : Nx} {i : Nat} (hk : q.np.kind = 13) (h : bel q i = q.np.l) (hne : q.np.l ≠ []) : ∃ a : Nat, q.np.l = [(a : Int)] ∧ a < i := by
  have hl : q.np.l.length = 1 := by
    unfold bel at h
    split at h
    · rename_i g; rw [g.1, hk]; rfl
    · exact absurd h.symm hne
  match hq : q.np.l, hl with
  | [a], _ =>
    have := bel_mem (q := q) (i := i) (e := a) (by rw [h, hq]; simp)
    exact ⟨a.toNat, by rw [Int.toNat_of_nonneg this.1], by omega⟩
theorem bel_two {q : Nx} {i : Nat} (hk : q.np.kind = 11 ∨ q.np.kind = 12) (h : bel q i = q.np.l) (hne : q.np.l ≠ []) : ∃ a b : Nat, q.np.l = [(a : Int), (b : Int)] ∧ a < i ∧ b < i := by
  have hl : q.np.l.length = 2 := by
    unfold bel at h
    split at h
    · rename_i g; rw [g.1]; unfold how1; rw [if_neg (by omega), if_pos hk]
    · exact absurd h.symm hne
  match hq : q.np.l, hl with
  | [a, b], _ =>
    have h1 := bel_mem (q := q) (i := i) (e := a) (by rw [h, hq]; simp)
    have h2 := bel_mem (q := q) (i := i) (e := b) (by rw [h, hq]; simp)
    exact ⟨a.toNat, b.toNat, by rw [Int.toNat_of_nonneg h1.1, Int.toNat_of_nonneg h2.1], by omega, by omega⟩
theorem bel_kind {q : Nx} {i : Nat} (h : bel q i = q.np.l) (hne : q.np.l ≠ []) : q.np.kind = 13 ∨ q.np.kind = 11 ∨ q.np.kind = 12 := by
  apply Classical.byContradiction
  intro hc
  unfold bel at h
  split at h
  · rename_i g
    have h0 : how1 q.np.kind = 0 := by unfold how1; rw [if_neg (by omega), if_neg (by omega)]
    rw [h0] at g
    exact hne (List.eq_nil_of_length_eq_zero g.1)
  · exact hne h.symm
theorem tst_none {cs : List TN.Cl} {q : Nx} {i : Nat} (h14 : q.np.kind ≠ 14) (h15 : q.np.kind ≠ 15) (h : bel q i = []) (hs : List Bool) (row : TN.Rw) : tst cs q i hs row = false := by
  unfold tst
  rw [if_neg h14, if_neg h15, h]
set_option maxRecDepth 100000 in
set_option maxHeartbeats 4000000 in
theorem nt_cmp {hd n i : Nat} {q : Nx} {cs : List TN.Cl} {cv : Value} {w : World} (hk : q.np.kind = 14) (hc : TN.ColsAt w cv cs) (hh : hd < w.heap.size) : Calls Try.prog 60 #[.agg q.cells.toArray, .int .i64 (i : Int), cv, slB hd n] w (NtP hd n cs q i w) := by
  obtain ⟨W, hW⟩ : ∃ W, W = (w.alloc (.cells q.cells.toArray 44)).alloc (.cells #[slB hd n] 102) := ⟨_, rfl⟩
  have hB1 : Below w.heap.size w (w.alloc (.cells q.cells.toArray 44)) := (Below.refl _ _).alloc (Nat.le_refl _) _
  have hB2 : Below (w.alloc (.cells q.cells.toArray 44)).heap.size (w.alloc (.cells q.cells.toArray 44)) W := by rw [hW]; exact (Below.refl _ _).alloc (Nat.le_refl _) _
  have hB : Below w.heap.size w W := hB1.trans (hB2.mono (by simp))
  have hN : W.heap[w.heap.size]? = some (.cells q.cells.toArray 44 (0, 0)) := block_on (alloc_block w _) hB2
  have c0 : W.cell? ⟨w.heap.size, 0, none⟩ = some (.int .i64 q.np.kind) := block_cell hN 0
  have c1 : W.cell? ⟨w.heap.size, 1, none⟩ = some (.string (St q.np.s)) := block_cell hN 1
  have HF : Hid (Calls Try.prog 65 #[cv, .string (St q.np.s)] W fun e w' => e = .returned (.int .i64 (TN.findC cs (St q.np.s))) ∧ Below W.heap.size W w') := TN.find_any (hc.on hB)
  have HBx := hid hB
  have HW := hid hW
  have HNd := hid hN
  have HK := hid hk
  have HH := hid hh
  rw [hk] at c0
  have hmf : ∀ (fn : Fn) (first cap : Array Value) (w : World), (Instr.makeFunc fn first cap).run Try.prog w = .ok (.func fn first cap) w := fun _ _ _ _ => rfl
  clear hB1 hB2 hB hW hN hk hc hh
  go_enter Try.func60, Try.ntmps60
  go_upto_region 1 with fail
  rw [← HW.out]
  go_wp2_with (first
    | (go_at_call 65; refine HF.out.mono ?_; rintro e w1 ⟨rfl, hb⟩; have HB1 := hid hb; clear hb)
    | (go_at_call 74; refine (ofValue_any _ _ _ _).mono ?_; rintro e w2 ⟨cb, fb, rfl, h2, h3, hb⟩; have HB2 := hid hb; have H2 := hid h2; have H3 := hid h3; clear hb h2 h3))
  go_ret
  have hs1 := HB1.out.size
  have hs2 := HBx.out.size
  have hl := lt_of_block HNd.out
  exact ⟨_, rfl, rfl, .cmp cb fb w.heap.size HK.out H2.out H3.out (block_on (block_on HNd.out HB1.out) HB2.out), HBx.out.trans ((HB1.out.trans (HB2.out.mono hs1)).mono hs2)⟩
set_option maxRecDepth 100000 in
set_option maxHeartbeats 4000000 in
theorem nt_has {hd n i : Nat} {q : Nx} {cs : List TN.Cl} {cv : Value} {w : World} (hk : q.np.kind = 15) (hc : TN.ColsAt w cv cs) (hh : hd < w.heap.size) : Calls Try.prog 60 #[.agg q.cells.toArray, .int .i64 (i : Int), cv, slB hd n] w (NtP hd n cs q i w) := by
  obtain ⟨W, hW⟩ : ∃ W, W = (w.alloc (.cells q.cells.toArray 44)).alloc (.cells #[slB hd n] 102) := ⟨_, rfl⟩
  have hB1 : Below w.heap.size w (w.alloc (.cells q.cells.toArray 44)) := (Below.refl _ _).alloc (Nat.le_refl _) _
  have hB2 : Below (w.alloc (.cells q.cells.toArray 44)).heap.size (w.alloc (.cells q.cells.toArray 44)) W := by rw [hW]; exact (Below.refl _ _).alloc (Nat.le_refl _) _
  have hB : Below w.heap.size w W := hB1.trans (hB2.mono (by simp))
  have hN : W.heap[w.heap.size]? = some (.cells q.cells.toArray 44 (0, 0)) := block_on (alloc_block w _) hB2
  have c0 : W.cell? ⟨w.heap.size, 0, none⟩ = some (.int .i64 q.np.kind) := block_cell hN 0
  have c1 : W.cell? ⟨w.heap.size, 1, none⟩ = some (.string (St q.np.s)) := block_cell hN 1
  have HF : Hid (Calls Try.prog 65 #[cv, .string (St q.np.s)] W fun e w' => e = .returned (.int .i64 (TN.findC cs (St q.np.s))) ∧ Below W.heap.size W w') := TN.find_any (hc.on hB)
  have HBx := hid hB
  have HW := hid hW
  have HNd := hid hN
  have HK := hid hk
  have HH := hid hh
  rw [hk] at c0
  have hmf : ∀ (fn : Fn) (first cap : Array Value) (w : World), (Instr.makeFunc fn first cap).run Try.prog w = .ok (.func fn first cap) w := fun _ _ _ _ => rfl
  clear hB1 hB2 hB hW hN hk hc hh
  go_enter Try.func60, Try.ntmps60
  go_upto_region 1 with fail
  rw [← HW.out]
  go_wp2_with (first
    | (go_at_call 65; refine HF.out.mono ?_; rintro e w1 ⟨rfl, hb⟩; have HB1 := hid hb; clear hb)
    | (go_at_call 74; refine (ofValue_any _ _ _ _).mono ?_; rintro e w2 ⟨cb, fb, rfl, h2, h3, hb⟩; have HB2 := hid hb; have H2 := hid h2; have H3 := hid h3; clear hb h2 h3))
  go_ret
  have hs1 := HB1.out.size
  have hs2 := HBx.out.size
  have hl := lt_of_block HNd.out
  exact ⟨_, rfl, rfl, .has cb fb w.heap.size HK.out H2.out H3.out (block_on (block_on HNd.out HB1.out) HB2.out), HBx.out.trans ((HB1.out.trans (HB2.out.mono hs1)).mono hs2)⟩
set_option maxRecDepth 100000 in
set_option maxHeartbeats 4000000 in
theorem nt_never {hd n i : Nat} {q : Nx} {cs : List TN.Cl} {cv : Value} {w : World} (h14 : q.np.kind ≠ 14) (h15 : q.np.kind ≠ 15) (hb0 : bel q i = []) (hL : SlAt (fun b => b < hd) int1 1 w q.lv q.np.l) (hh : hd < w.heap.size) : Calls Try.prog 60 #[.agg q.cells.toArray, .int .i64 (i : Int), cv, slB hd n] w (NtP hd n cs q i w) := by
  obtain ⟨W, hW⟩ : ∃ W, W = (w.alloc (.cells q.cells.toArray 44)).alloc (.cells #[slB hd n] 102) := ⟨_, rfl⟩
  have hB1 : Below w.heap.size w (w.alloc (.cells q.cells.toArray 44)) := (Below.refl _ _).alloc (Nat.le_refl _) _
  have hB2 : Below (w.alloc (.cells q.cells.toArray 44)).heap.size (w.alloc (.cells q.cells.toArray 44)) W := by rw [hW]; exact (Below.refl _ _).alloc (Nat.le_refl _) _
  have hB : Below w.heap.size w W := hB1.trans (hB2.mono (by simp))
  have hN : W.heap[w.heap.size]? = some (.cells q.cells.toArray 44 (0, 0)) := block_on (alloc_block w _) hB2
  have hV : W.heap[w.heap.size + 1]? = some (.cells #[slB hd n] 102 (0, 0)) := by
    have := alloc_block (w.alloc (.cells q.cells.toArray 44)) (.cells #[slB hd n] 102)
    rw [hW]; simpa using this
  have c0 : W.cell? ⟨w.heap.size, 0, none⟩ = some (.int .i64 q.np.kind) := block_cell hN 0
  have HR : Hid (W.rangeAt w.heap.size 0 q.cells) := fun j u hj => by rw [block_cell hN, Nat.zero_add, ← Array.getElem?_toList]; exact hj
  have HBl : Hid (Calls Try.prog 73 #[.agg q.cells.toArray, .int .i64 (i : Int)] W fun x w' => BelP q i x ∧ Below W.heap.size W w') := below_any (hL.on hB)
  have HBx := hid hB
  have HW := hid hW
  have HNd := hid hN
  have HV := hid hV
  have HH := hid hh
  have HL := hid (hL.on hB)
  have b14 : (q.np.kind == 14) = false := by simpa using h14
  have b15 : (q.np.kind == 15) = false := by simpa using h15
  have hmf : ∀ (fn : Fn) (first cap : Array Value) (w : World), (Instr.makeFunc fn first cap).run Try.prog w = .ok (.func fn first cap) w := fun _ _ _ _ => rfl
  have HT := hid (tst_none (cs := cs) h14 h15 hb0)
  have HE : Hid (∀ rv, (rv = q.lv ∧ bel q i = q.np.l) ∨ (rv = .slice none 0 0 ∧ bel q i = []) → ∃ p c, rv = .slice p 0 c) := by
    rintro rv (⟨rfl, h⟩ | ⟨rfl, -⟩)
    · obtain ⟨p, c, e, -, -⟩ := hL.form
      rw [← h, hb0] at e
      exact ⟨p, c, e⟩
    · exact ⟨none, 0, rfl⟩
  clear h14 h15 hb0
  clear hB1 hB2 hB hW hN hV hh hL
  go_enter Try.func60, Try.ntmps60
  go_upto_region 1 with fail
  rw [← HW.out]
  go_wp2_with (first
    | (refine wpList_load_mid rfl 44 _ rfl w.heap.size 0 rfl q.cells _ HR.out Try.underlying44 rfl size_node ?_)
    | (go_at_call 73; refine HBl.out.mono ?_; rintro e w1 ⟨hb, hbw⟩; obtain ⟨rv, rfl, hv⟩ := hb; obtain ⟨p1, c1, rfl⟩ := HE.out _ hv; have HB1 := hid hbw; have k0 := (hbw.cell (p := ⟨w.heap.size, 0, none⟩) (block_lt_of_cell c0)).trans c0; have hs1 := hbw.size; have hl1 := lt_of_block HNd.out; have hne1 : w.heap.size ≠ w1.heap.size := (by omega); clear hv hbw))
  go_ret
  exact ⟨_, rfl, rfl, .never HT.out, HBx.out.trans ((HB1.out.alloc HB1.out.size _).mono HBx.out.size)⟩
set_option maxRecDepth 100000 in
set_option maxHeartbeats 4000000 in
theorem nt_not {hd n i : Nat} {q : Nx} {cs : List TN.Cl} {cv : Value} {w : World} {a : Nat} (hk : q.np.kind = 13) (hb0 : bel q i = q.np.l) (hl : q.np.l = [(a : Int)]) (hin : a < n) (hL : SlAt (fun b => b < hd) int1 1 w q.lv q.np.l) (hh : hd < w.heap.size) : Calls Try.prog 60 #[.agg q.cells.toArray, .int .i64 (i : Int), cv, slB hd n] w (NtP hd n cs q i w) := by
  obtain ⟨W, hW⟩ : ∃ W, W = (w.alloc (.cells q.cells.toArray 44)).alloc (.cells #[slB hd n] 102) := ⟨_, rfl⟩
  have hB1 : Below w.heap.size w (w.alloc (.cells q.cells.toArray 44)) := (Below.refl _ _).alloc (Nat.le_refl _) _
  have hB2 : Below (w.alloc (.cells q.cells.toArray 44)).heap.size (w.alloc (.cells q.cells.toArray 44)) W := by rw [hW]; exact (Below.refl _ _).alloc (Nat.le_refl _) _
  have hB : Below w.heap.size w W := hB1.trans (hB2.mono (by simp))
  have hN : W.heap[w.heap.size]? = some (.cells q.cells.toArray 44 (0, 0)) := block_on (alloc_block w _) hB2
  have hV : W.heap[w.heap.size + 1]? = some (.cells #[slB hd n] 102 (0, 0)) := by
    have := alloc_block (w.alloc (.cells q.cells.toArray 44)) (.cells #[slB hd n] 102)
    rw [hW]; simpa using this
  have c0 : W.cell? ⟨w.heap.size, 0, none⟩ = some (.int .i64 q.np.kind) := block_cell hN 0
  have HR : Hid (W.rangeAt w.heap.size 0 q.cells) := fun j u hj => by rw [block_cell hN, Nat.zero_add, ← Array.getElem?_toList]; exact hj
  have HBl : Hid (Calls Try.prog 73 #[.agg q.cells.toArray, .int .i64 (i : Int)] W fun x w' => BelP q i x ∧ Below W.heap.size W w') := below_any (hL.on hB)
  have HBx := hid hB
  have HW := hid hW
  have HNd := hid hN
  have HV := hid hV
  have HH := hid hh
  have HL := hid (hL.on hB)
  have b14 : (q.np.kind == 14) = false := by rw [hk]; rfl
  have b15 : (q.np.kind == 15) = false := by rw [hk]; rfl
  have hmf : ∀ (fn : Fn) (first cap : Array Value) (w : World), (Instr.makeFunc fn first cap).run Try.prog w = .ok (.func fn first cap) w := fun _ _ _ _ => rfl
  have HK := hid hk
  have HE : Hid (∀ rv, (rv = q.lv ∧ bel q i = q.np.l) ∨ (rv = .slice none 0 0 ∧ bel q i = []) → rv = q.lv) := by
    rintro rv (⟨rfl, -⟩ | ⟨-, h⟩)
    · rfl
    · rw [hb0, hl] at h; cases h
  have HLl := hid hl
  have HBe := hid (hb0.trans hl)
  obtain ⟨p, c, hp, -, -⟩ := hL.form
  rw [hl] at hp
  have HP := hid hp
  rw [hk] at c0
  clear hp hb0 hl hk
  clear hB1 hB2 hB hW hN hV hh hL
  go_enter Try.func60, Try.ntmps60
  go_upto_region 1 with fail
  rw [← HW.out]
  go_wp2_with (first
    | (refine wpList_load_mid rfl 44 _ rfl w.heap.size 0 rfl q.cells _ HR.out Try.underlying44 rfl size_node ?_)
    | (go_at_call 73; refine HBl.out.mono ?_; rintro e w1 ⟨hb, hbw⟩; obtain ⟨rv, rfl, hv⟩ := hb; replace hv := HE.out _ hv; rw [HP.out] at hv; subst hv; have HB1 := hid hbw; have k0 := (hbw.cell (p := ⟨w.heap.size, 0, none⟩) (block_lt_of_cell c0)).trans c0; have hs1 := hbw.size; have hl1 := lt_of_block HNd.out; have hne1 : w.heap.size ≠ w1.heap.size := (by omega); have k1 : (w1.alloc (.cells #[.slice p 1 c] 37)).cell? ⟨w.heap.size, 0, none⟩ = some (.int .i64 13) := (((Below.refl w1.heap.size w1).alloc (Nat.le_refl _) (.cells #[.slice p 1 c] 37)).cell (p := ⟨w.heap.size, 0, none⟩) (block_lt_of_cell k0)).trans k0; clear hbw))
  simp only [List.length_cons, List.length_nil] at HP
  go_ret
  have hs := HBx.out.size
  have hl2 := lt_of_block HV.out
  have hB2 : Below w1.heap.size w1 (w1.alloc (.cells #[q.lv] 37)) := (Below.refl _ _).alloc (Nat.le_refl _) _
  have hV2 : (w1.alloc (.cells #[q.lv] 37)).heap[w.heap.size + 1]? = some (.cells #[slB hd n] 102 (0, 0)) := block_on (block_on HV.out HB1.out) hB2
  have hL2 : (w1.alloc (.cells #[q.lv] 37)).heap[w1.heap.size]? = some (.cells #[q.lv] 37 (0, 0)) := alloc_block w1 _
  have hSl := (HL.out.on HB1.out).on hB2
  rw [HLl.out] at hSl
  have hBB : Below w.heap.size w (w1.alloc (.cells #[q.lv] 37)) := HBx.out.trans ((HB1.out.alloc HB1.out.size _).mono HBx.out.size)
  rw [HP.out] at hV2 hL2 hBB
  refine ⟨_, rfl, rfl, .not (w.heap.size + 1) w1.heap.size a HK.out hin hV2 (by rw [HP.out]; exact hL2) (by have := hSl; rw [HP.out] at this ⊢; exact this) HBe.out, hBB⟩
set_option maxRecDepth 100000 in
set_option maxHeartbeats 4000000 in
theorem nt_and {hd n i : Nat} {q : Nx} {cs : List TN.Cl} {cv : Value} {w : World} {a b : Nat} (hk : q.np.kind = 11) (hb0 : bel q i = q.np.l) (hl : q.np.l = [(a : Int), (b : Int)]) (hin : a < n ∧ b < n) (hL : SlAt (fun b => b < hd) int1 1 w q.lv q.np.l) (hh : hd < w.heap.size) : Calls Try.prog 60 #[.agg q.cells.toArray, .int .i64 (i : Int), cv, slB hd n] w (NtP hd n cs q i w) := by
  obtain ⟨W, hW⟩ : ∃ W, W = (w.alloc (.cells q.cells.toArray 44)).alloc (.cells #[slB hd n] 102) := ⟨_, rfl⟩
  have hB1 : Below w.heap.size w (w.alloc (.cells q.cells.toArray 44)) := (Below.refl _ _).alloc (Nat.le_refl _) _
  have hB2 : Below (w.alloc (.cells q.cells.toArray 44)).heap.size (w.alloc (.cells q.cells.toArray 44)) W := by rw [hW]; exact (Below.refl _ _).alloc (Nat.le_refl _) _
  have hB : Below w.heap.size w W := hB1.trans (hB2.mono (by simp))
  have hN : W.heap[w.heap.size]? = some (.cells q.cells.toArray 44 (0, 0)) := block_on (alloc_block w _) hB2
  have hV : W.heap[w.heap.size + 1]? = some (.cells #[slB hd n] 102 (0, 0)) := by
    have := alloc_block (w.alloc (.cells q.cells.toArray 44)) (.cells #[slB hd n] 102)
    rw [hW]; simpa using this
  have c0 : W.cell? ⟨w.heap.size, 0, none⟩ = some (.int .i64 q.np.kind) := block_cell hN 0
  have HR : Hid (W.rangeAt w.heap.size 0 q.cells) := fun j u hj => by rw [block_cell hN, Nat.zero_add, ← Array.getElem?_toList]; exact hj
  have HBl : Hid (Calls Try.prog 73 #[.agg q.cells.toArray, .int .i64 (i : Int)] W fun x w' => BelP q i x ∧ Below W.heap.size W w') := below_any (hL.on hB)
  have HBx := hid hB
  have HW := hid hW
  have HNd := hid hN
  have HV := hid hV
  have HH := hid hh
  have HL := hid (hL.on hB)
  have b14 : (q.np.kind == 14) = false := by rw [hk]; rfl
  have b15 : (q.np.kind == 15) = false := by rw [hk]; rfl
  have hmf : ∀ (fn : Fn) (first cap : Array Value) (w : World), (Instr.makeFunc fn first cap).run Try.prog w = .ok (.func fn first cap) w := fun _ _ _ _ => rfl
  have HK := hid hk
  have HE : Hid (∀ rv, (rv = q.lv ∧ bel q i = q.np.l) ∨ (rv = .slice none 0 0 ∧ bel q i = []) → rv = q.lv) := by
    rintro rv (⟨rfl, -⟩ | ⟨-, h⟩)
    · rfl
    · rw [hb0, hl] at h; cases h
  have HLl := hid hl
  have HBe := hid (hb0.trans hl)
  obtain ⟨p, c, hp, -, -⟩ := hL.form
  rw [hl] at hp
  have HP := hid hp
  rw [hk] at c0
  clear hp hb0 hl hk
  clear hB1 hB2 hB hW hN hV hh hL
  go_enter Try.func60, Try.ntmps60
  go_upto_region 1 with fail
  rw [← HW.out]
  go_wp2_with (first
    | (refine wpList_load_mid rfl 44 _ rfl w.heap.size 0 rfl q.cells _ HR.out Try.underlying44 rfl size_node ?_)
    | (go_at_call 73; refine HBl.out.mono ?_; rintro e w1 ⟨hb, hbw⟩; obtain ⟨rv, rfl, hv⟩ := hb; replace hv := HE.out _ hv; rw [HP.out] at hv; subst hv; have HB1 := hid hbw; have k0 := (hbw.cell (p := ⟨w.heap.size, 0, none⟩) (block_lt_of_cell c0)).trans c0; have hs1 := hbw.size; have hl1 := lt_of_block HNd.out; have hne1 : w.heap.size ≠ w1.heap.size := (by omega); have k1 : (w1.alloc (.cells #[.slice p 2 c] 37)).cell? ⟨w.heap.size, 0, none⟩ = some (.int .i64 11) := (((Below.refl w1.heap.size w1).alloc (Nat.le_refl _) (.cells #[.slice p 2 c] 37)).cell (p := ⟨w.heap.size, 0, none⟩) (block_lt_of_cell k0)).trans k0; clear hbw))
  simp only [List.length_cons, List.length_nil] at HP
  go_ret
  have hs := HBx.out.size
  have hl2 := lt_of_block HV.out
  have hB2 : Below w1.heap.size w1 (w1.alloc (.cells #[q.lv] 37)) := (Below.refl _ _).alloc (Nat.le_refl _) _
  have hV2 : (w1.alloc (.cells #[q.lv] 37)).heap[w.heap.size + 1]? = some (.cells #[slB hd n] 102 (0, 0)) := block_on (block_on HV.out HB1.out) hB2
  have hL2 : (w1.alloc (.cells #[q.lv] 37)).heap[w1.heap.size]? = some (.cells #[q.lv] 37 (0, 0)) := alloc_block w1 _
  have hSl := (HL.out.on HB1.out).on hB2
  rw [HLl.out] at hSl
  have hBB : Below w.heap.size w (w1.alloc (.cells #[q.lv] 37)) := HBx.out.trans ((HB1.out.alloc HB1.out.size _).mono HBx.out.size)
  rw [HP.out] at hV2 hL2 hBB
  refine ⟨_, rfl, rfl, .and (w.heap.size + 1) w1.heap.size a b HK.out hin hV2 (by rw [HP.out]; exact hL2) (by have := hSl; rw [HP.out] at this ⊢; exact this) HBe.out, hBB⟩
set_option maxRecDepth 100000 in
set_option maxHeartbeats 4000000 in
theorem nt_or {hd n i : Nat} {q : Nx} {cs : List TN.Cl} {cv : Value} {w : World} {a b : Nat} (hk : q.np.kind = 12) (hb0 : bel q i = q.np.l) (hl : q.np.l = [(a : Int), (b : Int)]) (hin : a < n ∧ b < n) (hL : SlAt (fun b => b < hd) int1 1 w q.lv q.np.l) (hh : hd < w.heap.size) : Calls Try.prog 60 #[.agg q.cells.toArray, .int .i64 (i : Int), cv, slB hd n] w (NtP hd n cs q i w) := by
  obtain ⟨W, hW⟩ : ∃ W, W = (w.alloc (.cells q.cells.toArray 44)).alloc (.cells #[slB hd n] 102) := ⟨_, rfl⟩
  have hB1 : Below w.heap.size w (w.alloc (.cells q.cells.toArray 44)) := (Below.refl _ _).alloc (Nat.le_refl _) _
  have hB2 : Below (w.alloc (.cells q.cells.toArray 44)).heap.size (w.alloc (.cells q.cells.toArray 44)) W := by rw [hW]; exact (Below.refl _ _).alloc (Nat.le_refl _) _
  have hB : Below w.heap.size w W := hB1.trans (hB2.mono (by simp))
  have hN : W.heap[w.heap.size]? = some (.cells q.cells.toArray 44 (0, 0)) := block_on (alloc_block w _) hB2
  have hV : W.heap[w.heap.size + 1]? = some (.cells #[slB hd n] 102 (0, 0)) := by
    have := alloc_block (w.alloc (.cells q.cells.toArray 44)) (.cells #[slB hd n] 102)
    rw [hW]; simpa using this
  have c0 : W.cell? ⟨w.heap.size, 0, none⟩ = some (.int .i64 q.np.kind) := block_cell hN 0
  have HR : Hid (W.rangeAt w.heap.size 0 q.cells) := fun j u hj => by rw [block_cell hN, Nat.zero_add, ← Array.getElem?_toList]; exact hj
  have HBl : Hid (Calls Try.prog 73 #[.agg q.cells.toArray, .int .i64 (i : Int)] W fun x w' => BelP q i x ∧ Below W.heap.size W w') := below_any (hL.on hB)
  have HBx := hid hB
  have HW := hid hW
  have HNd := hid hN
  have HV := hid hV
  have HH := hid hh
  have HL := hid (hL.on hB)
  have b14 : (q.np.kind == 14) = false := by rw [hk]; rfl
  have b15 : (q.np.kind == 15) = false := by rw [hk]; rfl
  have hmf : ∀ (fn : Fn) (first cap : Array Value) (w : World), (Instr.makeFunc fn first cap).run Try.prog w = .ok (.func fn first cap) w := fun _ _ _ _ => rfl
  have HK := hid hk
  have HE : Hid (∀ rv, (rv = q.lv ∧ bel q i = q.np.l) ∨ (rv = .slice none 0 0 ∧ bel q i = []) → rv = q.lv) := by
    rintro rv (⟨rfl, -⟩ | ⟨-, h⟩)
    · rfl
    · rw [hb0, hl] at h; cases h
  have HLl := hid hl
  have HBe := hid (hb0.trans hl)
  obtain ⟨p, c, hp, -, -⟩ := hL.form
  rw [hl] at hp
  have HP := hid hp
  rw [hk] at c0
  clear hp hb0 hl hk
  clear hB1 hB2 hB hW hN hV hh hL
  go_enter Try.func60, Try.ntmps60
  go_upto_region 1 with fail
  rw [← HW.out]
  go_wp2_with (first
    | (refine wpList_load_mid rfl 44 _ rfl w.heap.size 0 rfl q.cells _ HR.out Try.underlying44 rfl size_node ?_)
    | (go_at_call 73; refine HBl.out.mono ?_; rintro e w1 ⟨hb, hbw⟩; obtain ⟨rv, rfl, hv⟩ := hb; replace hv := HE.out _ hv; rw [HP.out] at hv; subst hv; have HB1 := hid hbw; have k0 := (hbw.cell (p := ⟨w.heap.size, 0, none⟩) (block_lt_of_cell c0)).trans c0; have hs1 := hbw.size; have hl1 := lt_of_block HNd.out; have hne1 : w.heap.size ≠ w1.heap.size := (by omega); have k1 : (w1.alloc (.cells #[.slice p 2 c] 37)).cell? ⟨w.heap.size, 0, none⟩ = some (.int .i64 12) := (((Below.refl w1.heap.size w1).alloc (Nat.le_refl _) (.cells #[.slice p 2 c] 37)).cell (p := ⟨w.heap.size, 0, none⟩) (block_lt_of_cell k0)).trans k0; clear hbw))
  simp only [List.length_cons, List.length_nil] at HP
  go_ret
  have hs := HBx.out.size
  have hl2 := lt_of_block HV.out
  have hB2 : Below w1.heap.size w1 (w1.alloc (.cells #[q.lv] 37)) := (Below.refl _ _).alloc (Nat.le_refl _) _
  have hV2 : (w1.alloc (.cells #[q.lv] 37)).heap[w.heap.size + 1]? = some (.cells #[slB hd n] 102 (0, 0)) := block_on (block_on HV.out HB1.out) hB2
  have hL2 : (w1.alloc (.cells #[q.lv] 37)).heap[w1.heap.size]? = some (.cells #[q.lv] 37 (0, 0)) := alloc_block w1 _
  have hSl := (HL.out.on HB1.out).on hB2
  rw [HLl.out] at hSl
  have hBB : Below w.heap.size w (w1.alloc (.cells #[q.lv] 37)) := HBx.out.trans ((HB1.out.alloc HB1.out.size _).mono HBx.out.size)
  rw [HP.out] at hV2 hL2 hBB
  refine ⟨_, rfl, rfl, .or (w.heap.size + 1) w1.heap.size a b HK.out hin hV2 (by rw [HP.out]; exact hL2) (by have := hSl; rw [HP.out] at this ⊢; exact this) HBe.out, hBB⟩
/- Any node's test. -/
theorem nodeTest_any {hd n i : Nat} {q : Nx} {cs : List TN.Cl} {cv : Value} {w : World} (hc : TN.ColsAt w cv cs) (hL : SlAt (fun b => b < hd) int1 1 w q.lv q.np.l) (hh : hd < w.heap.size) (hin : i < n) : Calls Try.prog 60 #[.agg q.cells.toArray, .int .i64 (i : Int), cv, slB hd n] w (NtP hd n cs q i w) := by
  by_cases h14 : q.np.kind = 14
  · exact nt_cmp h14 hc hh
  · by_cases h15 : q.np.kind = 15
    · exact nt_has h15 hc hh
    · by_cases hb : bel q i = []
      · exact nt_never h14 h15 hb hL hh
      · have hb0 : bel q i = q.np.l := by
          unfold bel at hb ⊢
          split
          · rfl
          · rename_i hn; rw [if_neg hn] at hb; exact absurd rfl hb
        have hne : q.np.l ≠ [] := by rw [← hb0]; exact hb
        rcases bel_kind hb0 hne with hk | hk | hk
        · obtain ⟨a, ha, hai⟩ := bel_one hk hb0 hne
          exact nt_not hk hb0 ha (by omega) hL hh
        · obtain ⟨a, b, ha, hai, hbi⟩ := bel_two (.inl hk) hb0 hne
          exact nt_and hk hb0 ha ⟨by omega, by omega⟩ hL hh
        · obtain ⟨a, b, ha, hai, hbi⟩ := bel_two (.inr hk) hb0 hne
          exact nt_or hk hb0 ha ⟨by omega, by omega⟩ hL hh
end Go.Proofs.Ytjekpclbedbaoaa.PD
namespace Go.Proofs.Ytjekpclbedbaoaa.PD
open Go.RowKit Go.Joins

/- What 'needed' leaves: the node itself, and with each those that it stands on, above a place. -/
structure Need (qs : List Nx) (i : Nat) (k : Nat) (nl : List Bool) : Prop where
  len : nl.length = i + 1
  top : hsAt nl (i : Int) = true
  down : ∀ a, k ≤ a → a ≤ i → hsAt nl (a : Int) = true → ∀ q, qs[a]? = some q → ∀ e ∈ bel q a, hsAt nl e = true
theorem hsAt_setI {hs : List Bool} {a : Nat} {e : Int} {r : Bool} (ha : a < hs.length) (he : 0 ≤ e) : hsAt (hs.set a r) e = if e = (a : Int) then r else hsAt hs e := by
  obtain ⟨b, rfl⟩ : ∃ b : Nat, e = b := ⟨e.toNat, by omega⟩
  rw [hsAt_set ha]
  by_cases h : b = a
  · subst h; simp
  · rw [if_neg h, if_neg (by omega)]
theorem Need.set {qs : List Nx} {i k : Nat} {nl : List Bool} (h : Need qs i k nl) {a : Nat} (ha : a < k) (hi : a ≤ i) : Need qs i k (nl.set a true) := by
  have hl : a < nl.length := by rw [h.len]; omega
  refine ⟨by rw [List.length_set]; exact h.len, ?_, fun b hb hbi ht q hq e he => ?_⟩
  · by_cases e : i = a
    · rw [hsAt_set hl, if_pos e]
    · rw [hsAt_set hl, if_neg e]; exact h.top
  rw [hsAt_set hl, if_neg (by omega)] at ht
  rw [hsAt_setI hl (bel_mem he).1]
  split
  · rfl
  · exact h.down b hb hbi ht q hq e he
def NdP (qs : List Nx) (i : Nat) (w : World) (x : Ending) (w' : World) : Prop := ∃ nd nl, x = .returned (slB nd (i + 1)) ∧ w.heap.size ≤ nd ∧ Hd w' nd nl ∧ Need qs i 0 nl ∧ Below w.heap.size w w'
theorem make_bools (n : Nat) : (List.replicate n false).map Value.bool = List.replicate n (Value.bool false) := by simp
theorem info_bool : (Try.prog.info? 4).map (fun i => (i.zero, i.size, i.bytes)) = some (some (.bool false), 1, 1) := by kernel_rfl
theorem make_bs (n : Nat) (hn : n ≤ 1000) (W : World) : (Instr.makeSlice 102 (.int .i64 ((n : Int) + 1)) (.int .i64 ((n : Int) + 1))).run Try.prog W = .ok (slB W.heap.size (n + 1)) (W.alloc (.cells (Array.replicate (n + 1) (Value.bool false)) 4)) := by
  obtain ⟨i, hi, h0, h1, h2⟩ := info_parts info_bool
  have h := run_make W 102 4 i _ Try.underlying102 hi h0 .i64 .i64 ((n : Int) + 1) ((n : Int) + 1) (by omega) (Int.le_refl _) (by rw [h2]; omega) (by omega)
  rw [h, h1, show ((n : Int) + 1).toNat = n + 1 by omega, Nat.mul_one]
  show Result.ok _ (W.alloc (.cells (madeCells #[.bool false] (n + 1)) 4)) = _
  rw [TN.made_one, List.toArray_replicate]
set_option maxRecDepth 100000 in
set_option maxHeartbeats 4000000 in
theorem needed_any {i : Nat} {nv : Value} {qs : List Nx} {w : World} (hq : Qx (fun b => b < w.heap.size) w nv qs) (hi : i < qs.length) (hs : i < 1000) : Calls Try.prog 59 #[nv, .int .i64 (i : Int)] w (NdP qs i w) := by
  have hmk := make_bs i (by omega)
  obtain ⟨q0, hq0⟩ : ∃ q0, qs[i]? = some q0 := ⟨_, List.getElem?_eq_getElem hi⟩
  obtain ⟨p, c, rfl, hc1, hc2⟩ := hq.sl.form
  obtain ⟨g, o, rfl, hg, -⟩ := hq.sl.at hq0
  unfold maxLen at hc2
  obtain ⟨m, hm⟩ : ∃ m, qs.length = m := ⟨_, rfl⟩
  have HM := hid hm
  rw [hm] at hi hc1
  have HQ := hid hq
  rw [hm] at HQ
  have i1 : (i : Int) + 1 ≤ 1000 := by omega
  have i2 : (0 : Int) ≤ (i : Int) + 1 := by omega
  have i3 : (i : Int) < (m : Int) := by omega
  have i0 : (0 : Int) ≤ (i : Int) := by omega
  have hW1 : Hd (w.alloc (.cells (Array.replicate (i + 1) (Value.bool false)) 4)) w.heap.size (List.replicate (i + 1) false) := by
    unfold Hd; rw [make_bools, List.toArray_replicate]; exact alloc_block w _
  have HB1 : Hid (Below w.heap.size w (w.alloc (.cells (Array.replicate (i + 1) (Value.bool false)) 4))) := (Below.refl _ _).alloc (Nat.le_refl _) _
  have y1 := hW1.cell (a := i) (by rw [List.length_replicate]; omega)
  have z1 := hW1.frozen i
  have HH := hid (hW1.set i true)
  have hmi : (i : Nat) < (List.replicate (i + 1) false).length := by rw [List.length_replicate]; omega
  have HN : Hid (Need qs i (i + 1) ((List.replicate (i + 1) false).set i true)) := ⟨by rw [List.length_set, List.length_replicate], by rw [hsAt_set hmi, if_pos rfl], fun a h1 h2 => by omega⟩
  clear hq hc1 hq0 hm hi hW1 hmi
  go_enter Try.func59, Try.ntmps59
  rw [HM.out]
  go_upto_region 2 with fail
  generalize w.alloc (.cells (Array.replicate (i + 1) (Value.bool false)) 4) = W1 at *
  go_upto_region 4 with fail
  have HB2 : Hid (Kp (fun k => k = w.heap.size) W1 (W1.setCell ⟨w.heap.size, i, none⟩ (.bool true))) := Kp.set (T := fun k => k = w.heap.size) rfl _
  have HKw : Hid (∀ W, Kp (fun k => k = w.heap.size) W1 W → Below w.heap.size w W) := fun W hk => HB1.out.trans (hk.below HB1.out.size (fun k e => by omega))
  have HKq : Hid (∀ W, Kp (fun k => k = w.heap.size) W1 W → Qx (fun b => b < w.heap.size) W (.slice (some ⟨g, o, none⟩) m c) qs) := fun W hk => ⟨HQ.out.sl.kp (Kp.of (HKw.out W hk)) (T := fun _ => False) (fun _ _ => id), fun q hq => (HQ.out.each q hq).kp (Kp.of (HKw.out W hk)) (T := fun _ => False) (fun _ _ => id)⟩
  clear y1 z1
  generalize W1.setCell ⟨w.heap.size, i, none⟩ (.bool true) = W2 at *
  generalize hnd : w.heap.size = nd at *
  go_loopw [6] (fun x wr => ∃ k : Nat, k ≤ i + 1 ∧ x = .int .i64 ((k : Int) - 1) ∧ Hid (Kp (fun k => k = nd) W1 wr) ∧ Hid (∃ nl, Hd wr nd nl ∧ Need qs i k nl)) (fun x _ => (intOf x + 1).toNat)
  case atStart => exact ⟨i + 1, by omega, by go_num, HB2.out, _, HH.out, HN.out⟩
  case round =>
    obtain ⟨k, hk, rfl, HK, hHs⟩ := hrel
    obtain ⟨nl, hH, hN⟩ := hHs.out
    clear hHs
    cases k with
    | zero =>
      go_wp2_with fail
      go_ret
      exact ⟨nd, nl, rfl, by omega, hH, hN, by rw [hnd]; exact HKw.out _ HK.out⟩
    | succ k =>
      rw [show ((k + 1 : Nat) : Int) - 1 = (k : Int) by omega]
      have hki : k ≤ i := by omega
      have kI : (k : Int) < (i : Int) + 1 := by omega
      have km : (k : Int) < (m : Int) := by omega
      have k0 : (0 : Int) ≤ (k : Int) := by omega
      have yk := hH.cell (a := k) (by rw [hN.len]; omega)
      have HHr := hid hH
      have HNr := hid hN
      have HKi := hid hki
      cases hb : hsAt nl (k : Int) with
      | false =>
        rw [hb] at yk
        have HF := hid hb
        clear hH hN hb hki hk
        go_wp2_with fail
        go_roundw
        case rel =>
          refine ⟨k, by have := HKi.out; omega, by go_num, HK.out, nl, HHr.out, HNr.out.len, HNr.out.top, fun a h1 h2 h3 q hq e he => ?_⟩
          by_cases ea : a = k
          · subst ea; rw [HF.out] at h3; cases h3
          · exact HNr.out.down a (by omega) h2 h3 q hq e he
        case measure => simp [intOf]
      | true =>
        rw [hb] at yk
        obtain ⟨q, hq⟩ : ∃ q, qs[k]? = some q := ⟨_, List.getElem?_eq_getElem (by have := HM.out; omega)⟩
        have hQr := HKq.out _ HK.out
        obtain ⟨g', o', eg, hg', hc⟩ := hQr.sl.at hq
        cases eg
        have HR : Hid (wr.rangeAt g (o + k * 19) q.cells) := fun j u hj => hc j u hj
        have hql := (hQr.each q (List.mem_of_getElem? hq)).l
        have HBl : Hid (Calls Try.prog 73 #[.agg q.cells.toArray, .int .i64 (k : Int)] wr fun x w' => BelP q k x ∧ Below wr.heap.size wr w') := below_any hql
        have HSl : Hid (∀ rv, (rv = q.lv ∧ bel q k = q.np.l) ∨ (rv = .slice none 0 0 ∧ bel q k = []) → SlAt (fun b => b ≠ nd) int1 1 wr rv (bel q k)) := by
          rintro rv (⟨rfl, h⟩ | ⟨rfl, h⟩)
          · rw [h]; exact hql.imp (fun b hb => by omega)
          · rw [h]; exact ⟨none, 0, rfl, ⟨Nat.le_refl _, by unfold maxLen; omega⟩, fun hne => absurd rfl hne⟩
        have HX := hid hq
        clear hH hN hb hki hk hq hQr hg' hc hql
        go_upto_region 8 with (first
          | (refine wpList_load_mid rfl 44 _ rfl g (o + k * 19) (by simp [Act.eval]) q.cells _ HR.out Try.underlying44 rfl size_node ?_)
          | (go_at_call 73; refine HBl.out.mono ?_; rintro e w5 ⟨hb, hbw⟩; obtain ⟨rv, rfl, hv⟩ := hb; replace hv := HSl.out _ hv; obtain ⟨p5, c5, rfl, h51, h52⟩ := id hv.form; have HV5 := hid (hv.on hbw); have HK5 := hid (HK.out.trans (Kp.of hbw)); have HH5 := hid (HHr.out.on hbw); clear hv hbw))
        obtain ⟨bl, hbl⟩ : ∃ bl, bl = bel q k := ⟨_, rfl⟩
        have HBL := hid hbl
        rw [← hbl] at HV5 h51
        rw [← hbl]
        obtain ⟨bn, hbn⟩ : ∃ bn, bl.length = bn := ⟨_, rfl⟩
        have HBN := hid hbn
        rw [hbn] at HV5 h51
        rw [hbn]
        unfold maxLen at h52
        have bI : (bn : Int) ≤ 9223372036854775807 := by omega
        clear hbl hbn h51 h52 HSl HBl HR yk
        go_loopw [31, 8] (fun x _ wi => ∃ j : Nat, j ≤ bn ∧ x = .int .i64 j ∧ Hid (Kp (fun k => k = nd) W1 wi) ∧ Hid (Kp (fun k => k = nd) w5 wi) ∧ Hid (∃ nl', Hd wi nd nl' ∧ Need qs i (k + 1) nl' ∧ ∀ (j' : Nat) e, j' < j → bl[j']? = some e → hsAt nl' e = true)) (fun x _ _ => bn - (intOf x).toNat)
        case atStart => exact ⟨0, by omega, rfl, HK5.out, Kp.refl _ _, nl, HH5.out, HNr.out, fun j' e h => absurd h (Nat.not_lt_zero _)⟩
        case round =>
          obtain ⟨j, hj, rfl, HKi', HK5i, hHi⟩ := hrel
          obtain ⟨nl', hH', hN', hA'⟩ := hHi.out
          clear hHi
          by_cases hjl : j < bn
          · have jI : (j : Int) < bn := by omega
            have j0 : (0 : Int) ≤ j := by omega
            obtain ⟨e, he⟩ : ∃ e, bl[j]? = some e := ⟨_, List.getElem?_eq_getElem (by have := HBN.out; omega)⟩
            have hem := bel_mem (q := q) (i := k) (e := e) (by rw [← HBL.out]; exact List.mem_of_getElem? he)
            obtain ⟨en, rfl⟩ : ∃ en : Nat, e = en := ⟨e.toNat, by omega⟩
            obtain ⟨b, ob, epb, -, hce⟩ := (HV5.out.kp HK5i.out (fun b hb => hb)).at he
            subst epb
            have ce : wr.cell? ⟨b, ob + j, none⟩ = some (.int .i64 en) := by have := hce 0 _ rfl; rwa [Nat.mul_one, Nat.add_zero] at this
            have hen : en ≤ i := by have := HKi.out; omega
            have yx := hH'.cell (a := en) (by rw [hN'.len]; omega)
            have zx := hH'.frozen en
            have e0 : (0 : Int) ≤ (en : Int) := by omega
            have e1 : (en : Int) < (i : Int) + 1 := by omega
            have hlen : en < nl'.length := by rw [hN'.len]; omega
            have HHn := hid (hH'.set en true)
            have HNn := hid (hN'.set (a := en) (by omega) hen)
            have HKn : Hid (Kp (fun k => k = nd) wr (wr.setCell ⟨nd, en, none⟩ (.bool true))) := Kp.set (T := fun k => k = nd) rfl _
            have HAn : Hid (∀ (j' : Nat) e, j' < j + 1 → bl[j']? = some e → hsAt (nl'.set en true) e = true) := by
              intro j' e h1 h2
              have hm2 := bel_mem (q := q) (i := k) (e := e) (by rw [← HBL.out]; exact List.mem_of_getElem? h2)
              rw [hsAt_setI hlen hm2.1]
              by_cases ee : e = (en : Int)
              · rw [if_pos ee]
              · rw [if_neg ee]
                rcases Nat.lt_or_ge j' j with h3 | h3
                · exact hA' j' e h3 h2
                · have : j' = j := by omega
                  subst this
                  rw [he] at h2; cases h2; exact absurd rfl ee
            clear hH' hN' hA' he hce hem hlen hjl
            go_wp2_with fail
            go_roundw
            case rel => exact ⟨j + 1, by omega, by go_num, HKi'.out.trans HKn.out, HK5i.out.trans HKn.out, _, HHn.out, HNn.out, HAn.out⟩
            case measure => simp [intOf]; omega
          · have jI : ¬ (j : Int) < bn := by omega
            have HHn := hid hH'
            have HFin : Hid (Need qs i k nl') := by
              refine ⟨hN'.len, hN'.top, fun a h1 h2 h3 q' hq' e he => ?_⟩
              by_cases ea : a = k
              · subst ea
                have : q' = q := by have := HX.out; rw [hq'] at this; exact Option.some.inj this
                subst this
                rw [← HBL.out] at he
                obtain ⟨j', hj'⟩ := List.getElem?_of_mem he
                exact hA' j' e (by have := (List.getElem?_eq_some_iff.1 hj').1; have := HBN.out; omega) hj'
              · exact hN'.down a (by omega) h2 h3 q' hq' e he
            clear hH' hN' hA' hjl
            go_wp2_with fail
            go_roundw
            case rel => exact ⟨k, by have := HKi.out; omega, by go_num, HKi'.out, nl', HHn.out, HFin.out⟩
            case measure => simp [intOf]
end Go.Proofs.Ytjekpclbedbaoaa.PD
namespace Go.Proofs.Ytjekpclbedbaoaa
open Go.RowKit Go.Joins

theorem size_nodeX : (Try.prog.info? 44).map (·.size) = some 19 := size_node
theorem load_nx {ops : Array Oper} {rest : List Oper} {op : Oper} {a : Act} {w : World} {Q : Exit → Act → World → Prop} (hgd : op.guard = none) (x : Operand) (ho : op.op = .load 44 x) {g o : Nat} {q : Nx} (hx : a.eval x = .pointer (some ⟨g, o, none⟩)) (hc : CellsAt w g o q.cells)
    (h : wpList Try.prog ops Q rest (a.put op.dst (.agg q.cells.toArray)) w) : wpList Try.prog ops Q (op :: rest) a w :=
  wpList_load_mid hgd 44 x ho g o hx q.cells _ hc Try.underlying44 rfl size_node h
theorem store_nx {ops : Array Oper} {rest : List Oper} {op : Oper} {a : Act} {w : World} {Q : Exit → Act → World → Prop} (hgd : op.guard = none) (x y : Operand) (ho : op.op = .store 44 x y) {g : Nat} {q : Nx} (hx : a.eval x = dp g) (hy : a.eval y = .agg q.cells.toArray) (h1 : ∀ c ∈ q.cells, c.oneCell' = true) {old : Array Value} (hg : w.heap[g]? = some (.cells old 44 (0, 0))) (hs : old.size = 19)
    (h : ∀ w', w'.heap[g]? = some (.cells q.cells.toArray 44 (0, 0)) → Kp (fun k => k = g) w w' → wpList Try.prog ops Q rest (a.put op.dst undef) w') : wpList Try.prog ops Q (op :: rest) a w :=
  wpList_store_row hgd 44 x y ho hx hy hg size_node (by rw [hs]; rfl) (all_oneCell_toArray h1) (fun w' h1 h2 _ => h w' h1 h2)
theorem tree_drop {ns : List Np} {i : Nat} {seen : List Int} {n : Np} (h : ns[i]? = some n) : treeL (ns.drop i) i seen = if (n.l.length : Int) = belowN n.kind then (match nmL i seen n.l with | none => false | some s => treeL (ns.drop (i + 1)) (i + 1) s) else false := by
  have hi := (List.getElem?_eq_some_iff.1 h).1
  have e : ns.drop i = n :: ns.drop (i + 1) := by
    rw [List.drop_eq_getElem_cons hi]
    congr 1
    exact (List.getElem?_eq_some_iff.1 h).2
  rw [e]; rfl
theorem nm_drop {l : List Int} {i j : Nat} {seen : List Int} {k : Int} (h : l[j]? = some k) : nmL i seen (l.drop j) = if k < 0 ∨ (i : Int) ≤ k ∨ k ∈ seen then none else nmL i (k :: seen) (l.drop (j + 1)) := by
  have hi := (List.getElem?_eq_some_iff.1 h).1
  have e : l.drop j = k :: l.drop (j + 1) := by
    rw [List.drop_eq_getElem_cons hi]
    congr 1
    exact (List.getElem?_eq_some_iff.1 h).2
  rw [e]; rfl
theorem SlAt.bel {α : Type} {enc : α → List Value} {k B : Nat} {w w' : World} {v : Value} {xs : List α} (h : SlAt (fun b => b < B) enc k w v xs) (hb : Below B w w') : SlAt (fun b => b < B) enc k w' v xs := by
  obtain ⟨p, cap, hv, hc, hx⟩ := h
  refine ⟨p, cap, hv, hc, fun hne => ?_⟩
  obtain ⟨b, o, hp, hQ, hj⟩ := hx hne
  exact ⟨b, o, hp, hQ, fun j x hjx i u hu => (hb.cell (p := ⟨b, o + j * k + i, none⟩) hQ).trans (hj j x hjx i u hu)⟩
end Go.Proofs.Ytjekpclbedbaoaa
namespace Go.Proofs.Ytjekpclbedbaoaa
open Go.RowKit Go.Joins

theorem app_A {ops : Array Oper} {rest : List Oper} {o : Oper} {a : Act} {Q : Exit → Act → World → Prop} {w : World} {α : Type} {enc : α → List Value} {k e t B N : Nat} {Qb : Nat → Prop} {xs ys : List α} {v u : Value}
    (hE : ElemN t e k N) (hk : ∀ x, (enc x).length = k) (h1 : ∀ y ∈ ys, ∀ c ∈ enc y, c.oneCell' = true) (hgd : o.guard = none) (s x : Operand) (ho : o.op = .call { callee := .builtin .append, args := #[s, x], argTypes := #[t, t] })
    (hs : a.eval s = v) (hown : Own enc k e B w v xs) (hx : a.eval x = u) (hu : SlAt Qb enc k w u ys) (hne : ys ≠ []) (hb : (xs.length + ys.length) * N ≤ 140737488355328) (hN : 1 ≤ N) (hB : B ≤ w.heap.size)
    (h : ∀ v' w', Own enc k e B w' v' (xs ++ ys) → w.grownBy w' v.ownBlock → At w v v' → wpList Try.prog ops Q rest (a.put o.dst v') w') : wpList Try.prog ops Q (o :: rest) a w := by
  refine wpList_plain hgd fun K hK => ?_
  have := step_appP (ops := ops) (E := False) (K := K) (Q := Q) hE hk h1 hgd s x ho hs hx hown hu hne hb hN hB (fun v' w' a b c => hK _ _ (h v' w' a b c))
  rw [if_pos (by simp [Region.wanted, hgd])] at this
  exact this

end Go.Proofs.Ytjekpclbedbaoaa
namespace Go.Proofs.Ytjekpclbedbaoaa
open Go.RowKit Go.Joins

section
variable {B : Nat} {w w' : World} {wb : Nat} {nv wv : Value} {ws us : List (List UInt8)}
end
end Go.Proofs.Ytjekpclbedbaoaa
