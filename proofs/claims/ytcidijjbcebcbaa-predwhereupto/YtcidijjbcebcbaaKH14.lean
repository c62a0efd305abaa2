/-
  What a node stands on, as it is told.
  A node's test is made.
  The reference's Holds as mathematics.
  The reference's part: a text within a text.
  Print's isTree, walked.
-/
import Derived.Test.YtcidijjbcebcbaaKH08
import Derived.Test.YtcidijjbcebcbaaKH13
namespace Go.Proofs.Ytcidijjbcebcbaa.PD
open Go.RowKit Go.Joins

def BelP (q : Nx) (i : Nat) (x : Ending) : Prop := ∃ rv, x = .returned rv ∧ ((rv = q.lv ∧ bel q i = q.np.l) ∨ (rv = .slice none 0 0 ∧ bel q i = []))
set_option maxRecDepth 100000 in
set_option maxHeartbeats 2000000 in
theorem below_any {Q : Nat → Prop} {i : Nat} {q : Nx} {w : World} (hl : SlAt Q int1 1 w q.lv q.np.l) : Calls Try.prog 104 #[.agg q.cells.toArray, .int .i64 (i : Int)] w fun x w' => BelP q i x ∧ Below w.heap.size w w' := by
  obtain ⟨W, hW⟩ : ∃ W, W = (w.alloc (.cells q.cells.toArray 51)).alloc (.cells #[.int .i64 (i : Int)] 3) := ⟨_, rfl⟩
  have hB1 : Below w.heap.size w (w.alloc (.cells q.cells.toArray 51)) := (Below.refl _ _).alloc (Nat.le_refl _) _
  have hB2 : Below (w.alloc (.cells q.cells.toArray 51)).heap.size (w.alloc (.cells q.cells.toArray 51)) W := by rw [hW]; exact (Below.refl _ _).alloc (Nat.le_refl _) _
  have hB : Below w.heap.size w W := hB1.trans (hB2.mono (by simp))
  have hN : W.heap[w.heap.size]? = some (.cells q.cells.toArray 51 (0, 0)) := block_on (alloc_block w _) hB2
  have hI : W.heap[w.heap.size + 1]? = some (.cells #[.int .i64 (i : Int)] 3 (0, 0)) := by
    have := alloc_block (w.alloc (.cells q.cells.toArray 51)) (.cells #[.int .i64 (i : Int)] 3)
    rw [hW]; simpa using this
  have c0 : W.cell? ⟨w.heap.size, 0, none⟩ = some (.int .i64 q.np.kind) := block_cell hN 0
  have c16 : W.cell? ⟨w.heap.size, 16, none⟩ = some q.lv := block_cell hN 16
  have ci : W.cell? ⟨w.heap.size + 1, 0, none⟩ = some (.int .i64 (i : Int)) := block_cell hI 0
  have HL := hid (hl.on hB)
  have HC : Hid (∀ W', Below W.heap.size W W' → Calls Try.prog 129 #[q.lv, .func (.func 127) #[] #[dp (w.heap.size + 1)]] W' fun x w' => x = .returned (.bool (!ahead q.np.l i)) ∧ w' = W') := fun W' hb => contains_any ((hl.on hB).on hb) ((hb.cell (p := ⟨w.heap.size + 1, 0, none⟩) (block_lt_of_cell ci)).trans ci)
  have HBx := hid hB
  obtain ⟨p, c, e, -, -⟩ := hl.form
  have HE := hid e
  rw [e] at c16 HC
  have HW := hid hW
  obtain ⟨n, hn⟩ : ∃ n, q.np.l.length = n := ⟨_, rfl⟩
  have HN := hid hn
  rw [hn] at c16 HC
  clear hl hB1 hB2 hB hN hI hW e hn
  by_cases h1 : n = how1 q.np.kind
  · have b1 : ((n : Int) != (how1 q.np.kind : Int)) = false := by rw [h1]; simp
    cases ha : ahead q.np.l i with
    | true =>
      rw [ha] at HC
      have HP : Hid (BelP q i (.returned q.lv)) := ⟨_, rfl, .inl ⟨rfl, by unfold bel; rw [if_pos ⟨HN.out.trans h1, ha⟩]⟩⟩
      rw [HE.out, HN.out] at HP
      clear h1 ha
      go_enter Try.func104, Try.ntmps104
      go_upto_region 2 with fail
      rw [← HW.out]
      go_quiet (first | (go_at_call 128; exact Calls.quiet_of_same (how_any _ _)) | (go_at_call 129; exact Calls.quiet_of_same (HC.out _ (below_drewN (Below.refl _ _) _))))
      go_wp2_with fail
      go_ret
      exact ⟨HP.out, below_drewN HBx.out _⟩
    | false =>
      rw [ha] at HC
      have HP : Hid (BelP q i (.returned (.slice none 0 0))) := ⟨_, rfl, .inr ⟨rfl, by unfold bel; rw [if_neg]; rintro ⟨g1, g2⟩; rw [ha] at g2; cases g2⟩⟩
      clear h1 ha
      go_enter Try.func104, Try.ntmps104
      go_upto_region 2 with fail
      rw [← HW.out]
      go_quiet (first | (go_at_call 128; exact Calls.quiet_of_same (how_any _ _)) | (go_at_call 129; exact Calls.quiet_of_same (HC.out _ (below_drewN (Below.refl _ _) _))))
      go_wp2_with fail
      go_ret
      exact ⟨HP.out, below_drewN HBx.out _⟩
  · have b1 : ((n : Int) != (how1 q.np.kind : Int)) = true := by simp; omega
    have HP : Hid (BelP q i (.returned (.slice none 0 0))) := ⟨_, rfl, .inr ⟨rfl, by unfold bel; rw [if_neg]; rintro ⟨g1, g2⟩; exact h1 (HN.out.symm.trans g1)⟩⟩
    clear h1
    go_enter Try.func104, Try.ntmps104
    go_upto_region 2 with fail
    rw [← HW.out]
    go_quiet (first | (go_at_call 128; exact Calls.quiet_of_same (how_any _ _)))
    go_wp2_with fail
    go_ret
    exact ⟨HP.out, below_drewN HBx.out _⟩
end Go.Proofs.Ytcidijjbcebcbaa.PD
namespace Go.Proofs.Ytcidijjbcebcbaa.PD
open Go.RowKit Go.Joins

def OvP (c : Int) (fv : Value) (w : World) (x : Ending) (w' : World) : Prop := ∃ cb fb, x = .returned (.func (.func 130) #[] #[dp cb, dp fb]) ∧ w'.heap[cb]? = some (.cells #[.int .i64 c] 3 (0, 0)) ∧ w'.heap[fb]? = some (.cells #[fv] 101 (0, 0)) ∧ Below w.heap.size w w'
set_option maxRecDepth 100000 in
set_option maxHeartbeats 1000000 in
theorem ofValue_any (c : Int) (F : Nat) (nb : Nat) (w : World) : Calls Try.prog 105 #[.int .i64 c, .func (.func F) #[] #[dp nb]] w (OvP c (.func (.func F) #[] #[dp nb]) w) := by
  have hB1 : Below w.heap.size w (w.alloc (.cells #[.int .i64 c] 3)) := (Below.refl _ _).alloc (Nat.le_refl _) _
  have hB2 : Below (w.alloc (.cells #[.int .i64 c] 3)).heap.size (w.alloc (.cells #[.int .i64 c] 3)) ((w.alloc (.cells #[.int .i64 c] 3)).alloc (.cells #[.func (.func F) #[] #[dp nb]] 101)) := (Below.refl _ _).alloc (Nat.le_refl _) _
  have HP : Hid (OvP c (.func (.func F) #[] #[dp nb]) w (.returned (.func (.func 130) #[] #[dp w.heap.size, dp (w.heap.size + 1)])) ((w.alloc (.cells #[.int .i64 c] 3)).alloc (.cells #[.func (.func F) #[] #[dp nb]] 101))) := by
    refine ⟨w.heap.size, w.heap.size + 1, rfl, ?_, ?_, hB1.trans (hB2.mono (by simp))⟩
    · have := block_on (alloc_block w (.cells #[.int .i64 c] 3)) hB2
      exact this
    · have := alloc_block (w.alloc (.cells #[.int .i64 c] 3)) (.cells #[.func (.func F) #[] #[dp nb]] 101)
      have h2 : ((w.alloc (.cells #[.int .i64 c] 3)).alloc (.cells #[.func (.func F) #[] #[dp nb]] 101)).heap[w.heap.size + 1]? = some (.cells #[.func (.func F) #[] #[dp nb]] 101 (0, 0)) := by simpa using this
      exact h2
  clear hB1 hB2
  have hmf : ∀ (fn : Fn) (first cap : Array Value) (w : World), (Instr.makeFunc fn first cap).run Try.prog w = .ok (.func fn first cap) w := fun _ _ _ _ => rfl
  go_enter Try.func105, Try.ntmps105
  go_wp2_with fail
  go_ret
  exact HP.out
def NtP (hd n : Nat) (cs : List TN.Cl) (q : Nx) (i : Nat) (w : World) (x : Ending) (w' : World) : Prop := ∃ tv, x = .returned tv ∧ tv.oneCell' = true ∧ Tst hd n cs q i w' tv ∧ Below w.heap.size w w'
theorem bel_one {q : Nx} {i : Nat} (hk : q.np.kind = 13) (h : bel q i = q.np.l) (hne : q.np.l ≠ []) : ∃ a : Nat, q.np.l = [(a : Int)] ∧ a < i := by
  have hl : q.np.l.length = 1 := by
    unfold bel at h
    split at h
    · rename_i g; rw [g.1, hk]; rfl
    · exact absurd h.symm hne
  match hq : q.np.l, hl with
  | [a], _ =>
    have := bel_mem (q := q) (i := i) (e := a) (by rw [h, hq]; simp)
    exact ⟨a.toNat, by rw [Int.toNat_of_nonneg this.1], by omega⟩
theorem bel_two {q : Nx} {i : Nat} (hk : q.np.kind = 11 ∨ q.np.kind = 12) (h : bel q i = q.np.l) (hne : q.np.l ≠ []) : ∃ a b : Nat, q.np.l = [(a : Int), (b : Int)] ∧ a < i ∧ b < i := by
  have hl : q.np.l.length = 2 := by
    unfold bel at h
    split at h
    · rename_i g; rw [g.1]; unfold how1; rw [if_neg (by omega), if_pos hk]
    · exact absurd h.symm hne
  match hq : q.np.l, hl with
  | [a, b], _ =>
    have h1 := bel_mem (q := q) (i := i) (e := a) (by rw [h, hq]; simp)
    have h2 := bel_mem (q := q) (i := i) (e := b) (by rw [h, hq]; simp)
    exact ⟨a.toNat, b.toNat, by rw [Int.toNat_of_nonneg h1.1, Int.toNat_of_nonneg h2.1], by omega, by omega⟩
theorem bel_kind {q : Nx} {i : Nat} (h : bel q i = q.np.l) (hne : q.np.l ≠ []) : q.np.kind = 13 ∨ q.np.kind = 11 ∨ q.np.kind = 12 := by
  apply Classical.byContradiction
  intro hc
  unfold bel at h
  split at h
  · rename_i g
    have h0 : how1 q.np.kind = 0 := by unfold how1; rw [if_neg (by omega), if_neg (by omega)]
    rw [h0] at g
    exact hne (List.eq_nil_of_length_eq_zero g.1)
  · exact hne h.symm
theorem tst_none {cs : List TN.Cl} {q : Nx} {i : Nat} (h14 : q.np.kind ≠ 14) (h15 : q.np.kind ≠ 15) (h : bel q i = []) (hs : List Bool) (row : TN.Rw) : tst cs q i hs row = false := by
  unfold tst
  rw [if_neg h14, if_neg h15, h]
set_option maxRecDepth 100000 in
set_option maxHeartbeats 4000000 in
theorem nt_cmp {hd n i : Nat} {q : Nx} {cs : List TN.Cl} {cv : Value} {w : World} (hk : q.np.kind = 14) (hc : TN.ColsAt w cv cs) (hh : hd < w.heap.size) : Calls Try.prog 77 #[.agg q.cells.toArray, .int .i64 (i : Int), cv, slB hd n] w (NtP hd n cs q i w) := by
  obtain ⟨W, hW⟩ : ∃ W, W = (w.alloc (.cells q.cells.toArray 51)).alloc (.cells #[slB hd n] 80) := ⟨_, rfl⟩
  have hB1 : Below w.heap.size w (w.alloc (.cells q.cells.toArray 51)) := (Below.refl _ _).alloc (Nat.le_refl _) _
  have hB2 : Below (w.alloc (.cells q.cells.toArray 51)).heap.size (w.alloc (.cells q.cells.toArray 51)) W := by rw [hW]; exact (Below.refl _ _).alloc (Nat.le_refl _) _
  have hB : Below w.heap.size w W := hB1.trans (hB2.mono (by simp))
  have hN : W.heap[w.heap.size]? = some (.cells q.cells.toArray 51 (0, 0)) := block_on (alloc_block w _) hB2
  have c0 : W.cell? ⟨w.heap.size, 0, none⟩ = some (.int .i64 q.np.kind) := block_cell hN 0
  have c1 : W.cell? ⟨w.heap.size, 1, none⟩ = some (.string (St q.np.s)) := block_cell hN 1
  have HF : Hid (Calls Try.prog 57 #[cv, .string (St q.np.s)] W fun e w' => e = .returned (.int .i64 (TN.findC cs (St q.np.s))) ∧ Below W.heap.size W w') := TN.find_any (hc.on hB)
  have HBx := hid hB
  have HW := hid hW
  have HNd := hid hN
  have HK := hid hk
  have HH := hid hh
  rw [hk] at c0
  have hmf : ∀ (fn : Fn) (first cap : Array Value) (w : World), (Instr.makeFunc fn first cap).run Try.prog w = .ok (.func fn first cap) w := fun _ _ _ _ => rfl
  clear hB1 hB2 hB hW hN hk hc hh
  go_enter Try.func77, Try.ntmps77
  go_upto_region 1 with fail
  rw [← HW.out]
  go_wp2_with (first
    | (go_at_call 57; refine HF.out.mono ?_; rintro e w1 ⟨rfl, hb⟩; have HB1 := hid hb; clear hb)
    | (go_at_call 105; refine (ofValue_any _ _ _ _).mono ?_; rintro e w2 ⟨cb, fb, rfl, h2, h3, hb⟩; have HB2 := hid hb; have H2 := hid h2; have H3 := hid h3; clear hb h2 h3))
  go_ret
  have hs1 := HB1.out.size
  have hs2 := HBx.out.size
  have hl := lt_of_block HNd.out
  exact ⟨_, rfl, rfl, .cmp cb fb w.heap.size HK.out H2.out H3.out (block_on (block_on HNd.out HB1.out) HB2.out), HBx.out.trans ((HB1.out.trans (HB2.out.mono hs1)).mono hs2)⟩
set_option maxRecDepth 100000 in
set_option maxHeartbeats 4000000 in
theorem nt_has {hd n i : Nat} {q : Nx} {cs : List TN.Cl} {cv : Value} {w : World} (hk : q.np.kind = 15) (hc : TN.ColsAt w cv cs) (hh : hd < w.heap.size) : Calls Try.prog 77 #[.agg q.cells.toArray, .int .i64 (i : Int), cv, slB hd n] w (NtP hd n cs q i w) := by
  obtain ⟨W, hW⟩ : ∃ W, W = (w.alloc (.cells q.cells.toArray 51)).alloc (.cells #[slB hd n] 80) := ⟨_, rfl⟩
  have hB1 : Below w.heap.size w (w.alloc (.cells q.cells.toArray 51)) := (Below.refl _ _).alloc (Nat.le_refl _) _
  have hB2 : Below (w.alloc (.cells q.cells.toArray 51)).heap.size (w.alloc (.cells q.cells.toArray 51)) W := by rw [hW]; exact (Below.refl _ _).alloc (Nat.le_refl _) _
  have hB : Below w.heap.size w W := hB1.trans (hB2.mono (by simp))
  have hN : W.heap[w.heap.size]? = some (.cells q.cells.toArray 51 (0, 0)) := block_on (alloc_block w _) hB2
  have c0 : W.cell? ⟨w.heap.size, 0, none⟩ = some (.int .i64 q.np.kind) := block_cell hN 0
  have c1 : W.cell? ⟨w.heap.size, 1, none⟩ = some (.string (St q.np.s)) := block_cell hN 1
  have HF : Hid (Calls Try.prog 57 #[cv, .string (St q.np.s)] W fun e w' => e = .returned (.int .i64 (TN.findC cs (St q.np.s))) ∧ Below W.heap.size W w') := TN.find_any (hc.on hB)
  have HBx := hid hB
  have HW := hid hW
  have HNd := hid hN
  have HK := hid hk
  have HH := hid hh
  rw [hk] at c0
  have hmf : ∀ (fn : Fn) (first cap : Array Value) (w : World), (Instr.makeFunc fn first cap).run Try.prog w = .ok (.func fn first cap) w := fun _ _ _ _ => rfl
  clear hB1 hB2 hB hW hN hk hc hh
  go_enter Try.func77, Try.ntmps77
  go_upto_region 1 with fail
  rw [← HW.out]
  go_wp2_with (first
    | (go_at_call 57; refine HF.out.mono ?_; rintro e w1 ⟨rfl, hb⟩; have HB1 := hid hb; clear hb)
    | (go_at_call 105; refine (ofValue_any _ _ _ _).mono ?_; rintro e w2 ⟨cb, fb, rfl, h2, h3, hb⟩; have HB2 := hid hb; have H2 := hid h2; have H3 := hid h3; clear hb h2 h3))
  go_ret
  have hs1 := HB1.out.size
  have hs2 := HBx.out.size
  have hl := lt_of_block HNd.out
  exact ⟨_, rfl, rfl, .has cb fb w.heap.size HK.out H2.out H3.out (block_on (block_on HNd.out HB1.out) HB2.out), HBx.out.trans ((HB1.out.trans (HB2.out.mono hs1)).mono hs2)⟩
set_option maxRecDepth 100000 in
set_option maxHeartbeats 4000000 in
theorem nt_never {hd n i : Nat} {q : Nx} {cs : List TN.Cl} {cv : Value} {w : World} (h14 : q.np.kind ≠ 14) (h15 : q.np.kind ≠ 15) (hb0 : bel q i = []) (hL : SlAt (fun b => b < hd) int1 1 w q.lv q.np.l) (hh : hd < w.heap.size) : Calls Try.prog 77 #[.agg q.cells.toArray, .int .i64 (i : Int), cv, slB hd n] w (NtP hd n cs q i w) := by
  obtain ⟨W, hW⟩ : ∃ W, W = (w.alloc (.cells q.cells.toArray 51)).alloc (.cells #[slB hd n] 80) := ⟨_, rfl⟩
  have hB1 : Below w.heap.size w (w.alloc (.cells q.cells.toArray 51)) := (Below.refl _ _).alloc (Nat.le_refl _) _
  have hB2 : Below (w.alloc (.cells q.cells.toArray 51)).heap.size (w.alloc (.cells q.cells.toArray 51)) W := by rw [hW]; exact (Below.refl _ _).alloc (Nat.le_refl _) _
  have hB : Below w.heap.size w W := hB1.trans (hB2.mono (by simp))
  have hN : W.heap[w.heap.size]? = some (.cells q.cells.toArray 51 (0, 0)) := block_on (alloc_block w _) hB2
  have hV : W.heap[w.heap.size + 1]? = some (.cells #[slB hd n] 80 (0, 0)) := by
    have := alloc_block (w.alloc (.cells q.cells.toArray 51)) (.cells #[slB hd n] 80)
    rw [hW]; simpa using this
  have c0 : W.cell? ⟨w.heap.size, 0, none⟩ = some (.int .i64 q.np.kind) := block_cell hN 0
  have HR : Hid (W.rangeAt w.heap.size 0 q.cells) := fun j u hj => by rw [block_cell hN, Nat.zero_add, ← Array.getElem?_toList]; exact hj
  have HBl : Hid (Calls Try.prog 104 #[.agg q.cells.toArray, .int .i64 (i : Int)] W fun x w' => BelP q i x ∧ Below W.heap.size W w') := below_any (hL.on hB)
  have HBx := hid hB
  have HW := hid hW
  have HNd := hid hN
  have HV := hid hV
  have HH := hid hh
  have HL := hid (hL.on hB)
  have b14 : (q.np.kind == 14) = false := by simpa using h14
  have b15 : (q.np.kind == 15) = false := by simpa using h15
  have hmf : ∀ (fn : Fn) (first cap : Array Value) (w : World), (Instr.makeFunc fn first cap).run Try.prog w = .ok (.func fn first cap) w := fun _ _ _ _ => rfl
  have HT := hid (tst_none (cs := cs) h14 h15 hb0)
  have HE : Hid (∀ rv, (rv = q.lv ∧ bel q i = q.np.l) ∨ (rv = .slice none 0 0 ∧ bel q i = []) → ∃ p c, rv = .slice p 0 c) := by
    rintro rv (⟨rfl, h⟩ | ⟨rfl, -⟩)
    · obtain ⟨p, c, e, -, -⟩ := hL.form
      rw [← h, hb0] at e
      exact ⟨p, c, e⟩
    · exact ⟨none, 0, rfl⟩
  clear h14 h15 hb0
  clear hB1 hB2 hB hW hN hV hh hL
  go_enter Try.func77, Try.ntmps77
  go_upto_region 1 with fail
  rw [← HW.out]
  go_wp2_with (first
    | (refine wpList_load_mid rfl 51 _ rfl w.heap.size 0 rfl q.cells _ HR.out Try.underlying51 rfl size_node ?_)
    | (go_at_call 104; refine HBl.out.mono ?_; rintro e w1 ⟨hb, hbw⟩; obtain ⟨rv, rfl, hv⟩ := hb; obtain ⟨p1, c1, rfl⟩ := HE.out _ hv; have HB1 := hid hbw; have k0 := (hbw.cell (p := ⟨w.heap.size, 0, none⟩) (block_lt_of_cell c0)).trans c0; have hs1 := hbw.size; have hl1 := lt_of_block HNd.out; have hne1 : w.heap.size ≠ w1.heap.size := (by omega); clear hv hbw))
  go_ret
  exact ⟨_, rfl, rfl, .never HT.out, HBx.out.trans ((HB1.out.alloc HB1.out.size _).mono HBx.out.size)⟩
set_option maxRecDepth 100000 in
set_option maxHeartbeats 4000000 in
theorem nt_not {hd n i : Nat} {q : Nx} {cs : List TN.Cl} {cv : Value} {w : World} {a : Nat} (hk : q.np.kind = 13) (hb0 : bel q i = q.np.l) (hl : q.np.l = [(a : Int)]) (hin : a < n) (hL : SlAt (fun b => b < hd) int1 1 w q.lv q.np.l) (hh : hd < w.heap.size) : Calls Try.prog 77 #[.agg q.cells.toArray, .int .i64 (i : Int), cv, slB hd n] w (NtP hd n cs q i w) := by
  obtain ⟨W, hW⟩ : ∃ W, W = (w.alloc (.cells q.cells.toArray 51)).alloc (.cells #[slB hd n] 80) := ⟨_, rfl⟩
  have hB1 : Below w.heap.size w (w.alloc (.cells q.cells.toArray 51)) := (Below.refl _ _).alloc (Nat.le_refl _) _
  have hB2 : Below (w.alloc (.cells q.cells.toArray 51)).heap.size (w.alloc (.cells q.cells.toArray 51)) W := by rw [hW]; exact (Below.refl _ _).alloc (Nat.le_refl _) _
  have hB : Below w.heap.size w W := hB1.trans (hB2.mono (by simp))
  have hN : W.heap[w.heap.size]? = some (.cells q.cells.toArray 51 (0, 0)) := block_on (alloc_block w _) hB2
  have hV : W.heap[w.heap.size + 1]? = some (.cells #[slB hd n] 80 (0, 0)) := by
    have := alloc_block (w.alloc (.cells q.cells.toArray 51)) (.cells #[slB hd n] 80)
    rw [hW]; simpa using this
  have c0 : W.cell? ⟨w.heap.size, 0, none⟩ = some (.int .i64 q.np.kind) := block_cell hN 0
  have HR : Hid (W.rangeAt w.heap.size 0 q.cells) := fun j u hj => by rw [block_cell hN, Nat.zero_add, ← Array.getElem?_toList]; exact hj
  have HBl : Hid (Calls Try.prog 104 #[.agg q.cells.toArray, .int .i64 (i : Int)] W fun x w' => BelP q i x ∧ Below W.heap.size W w') := below_any (hL.on hB)
  have HBx := hid hB
  have HW := hid hW
  have HNd := hid hN
  have HV := hid hV
  have HH := hid hh
  have HL := hid (hL.on hB)
  have b14 : (q.np.kind == 14) = false := by rw [hk]; rfl
  have b15 : (q.np.kind == 15) = false := by rw [hk]; rfl
  have hmf : ∀ (fn : Fn) (first cap : Array Value) (w : World), (Instr.makeFunc fn first cap).run Try.prog w = .ok (.func fn first cap) w := fun _ _ _ _ => rfl
  have HK := hid hk
  have HE : Hid (∀ rv, (rv = q.lv ∧ bel q i = q.np.l) ∨ (rv = .slice none 0 0 ∧ bel q i = []) → rv = q.lv) := by
    rintro rv (⟨rfl, -⟩ | ⟨-, h⟩)
    · rfl
    · rw [hb0, hl] at h; cases h
  have HLl := hid hl
  have HBe := hid (hb0.trans hl)
  obtain ⟨p, c, hp, -, -⟩ := hL.form
  rw [hl] at hp
  have HP := hid hp
  rw [hk] at c0
  clear hp hb0 hl hk
  clear hB1 hB2 hB hW hN hV hh hL
  go_enter Try.func77, Try.ntmps77
  go_upto_region 1 with fail
  rw [← HW.out]
  go_wp2_with (first
    | (refine wpList_load_mid rfl 51 _ rfl w.heap.size 0 rfl q.cells _ HR.out Try.underlying51 rfl size_node ?_)
    | (go_at_call 104; refine HBl.out.mono ?_; rintro e w1 ⟨hb, hbw⟩; obtain ⟨rv, rfl, hv⟩ := hb; replace hv := HE.out _ hv; rw [HP.out] at hv; subst hv; have HB1 := hid hbw; have k0 := (hbw.cell (p := ⟨w.heap.size, 0, none⟩) (block_lt_of_cell c0)).trans c0; have hs1 := hbw.size; have hl1 := lt_of_block HNd.out; have hne1 : w.heap.size ≠ w1.heap.size := (by omega); have k1 : (w1.alloc (.cells #[.slice p 1 c] 47)).cell? ⟨w.heap.size, 0, none⟩ = some (.int .i64 13) := (((Below.refl w1.heap.size w1).alloc (Nat.le_refl _) (.cells #[.slice p 1 c] 47)).cell (p := ⟨w.heap.size, 0, none⟩) (block_lt_of_cell k0)).trans k0; clear hbw))
  simp only [List.length_cons, List.length_nil] at HP
  go_ret
  have hs := HBx.out.size
  have hl2 := lt_of_block HV.out
  have hB2 : Below w1.heap.size w1 (w1.alloc (.cells #[q.lv] 47)) := (Below.refl _ _).alloc (Nat.le_refl _) _
  have hV2 : (w1.alloc (.cells #[q.lv] 47)).heap[w.heap.size + 1]? = some (.cells #[slB hd n] 80 (0, 0)) := block_on (block_on HV.out HB1.out) hB2
  have hL2 : (w1.alloc (.cells #[q.lv] 47)).heap[w1.heap.size]? = some (.cells #[q.lv] 47 (0, 0)) := alloc_block w1 _
  have hSl := (HL.out.on HB1.out).on hB2
  rw [HLl.out] at hSl
  have hBB : Below w.heap.size w (w1.alloc (.cells #[q.lv] 47)) := HBx.out.trans ((HB1.out.alloc HB1.out.size _).mono HBx.out.size)
  rw [HP.out] at hV2 hL2 hBB
  refine ⟨_, rfl, rfl, .not (w.heap.size + 1) w1.heap.size a HK.out hin hV2 (by rw [HP.out]; exact hL2) (by have := hSl; rw [HP.out] at this ⊢; exact this) HBe.out, hBB⟩
set_option maxRecDepth 100000 in
set_option maxHeartbeats 4000000 in
theorem nt_and {hd n i : Nat} {q : Nx} {cs : List TN.Cl} {cv : Value} {w : World} {a b : Nat} (hk : q.np.kind = 11) (hb0 : bel q i = q.np.l) (hl : q.np.l = [(a : Int), (b : Int)]) (hin : a < n ∧ b < n) (hL : SlAt (fun b => b < hd) int1 1 w q.lv q.np.l) (hh : hd < w.heap.size) : Calls Try.prog 77 #[.agg q.cells.toArray, .int .i64 (i : Int), cv, slB hd n] w (NtP hd n cs q i w) := by
  obtain ⟨W, hW⟩ : ∃ W, W = (w.alloc (.cells q.cells.toArray 51)).alloc (.cells #[slB hd n] 80) := ⟨_, rfl⟩
  have hB1 : Below w.heap.size w (w.alloc (.cells q.cells.toArray 51)) := (Below.refl _ _).alloc (Nat.le_refl _) _
  have hB2 : Below (w.alloc (.cells q.cells.toArray 51)).heap.size (w.alloc (.cells q.cells.toArray 51)) W := by rw [hW]; exact (Below.refl _ _).alloc (Nat.le_refl _) _
  have hB : Below w.heap.size w W := hB1.trans (hB2.mono (by simp))
  have hN : W.heap[w.heap.size]? = some (.cells q.cells.toArray 51 (0, 0)) := block_on (alloc_block w _) hB2
  have hV : W.heap[w.heap.size + 1]? = some (.cells #[slB hd n] 80 (0, 0)) := by
    have := alloc_block (w.alloc (.cells q.cells.toArray 51)) (.cells #[slB hd n] 80)
    rw [hW]; simpa using this
  have c0 : W.cell? ⟨w.heap.size, 0, none⟩ = some (.int .i64 q.np.kind) := block_cell hN 0
  have HR : Hid (W.rangeAt w.heap.size 0 q.cells) := fun j u hj => by rw [block_cell hN, Nat.zero_add, ← Array.getElem?_toList]; exact hj
  have HBl : Hid (Calls Try.prog 104 #[.agg q.cells.toArray, .int .i64 (i : Int)] W fun x w' => BelP q i x ∧ Below W.heap.size W w') := below_any (hL.on hB)
  have HBx := hid hB
  have HW := hid hW
  have HNd := hid hN
  have HV := hid hV
  have HH := hid hh
  have HL := hid (hL.on hB)
  have b14 : (q.np.kind == 14) = false := by rw [hk]; rfl
  have b15 : (q.np.kind == 15) = false := by rw [hk]; rfl
  have hmf : ∀ (fn : Fn) (first cap : Array Value) (w : World), (Instr.makeFunc fn first cap).run Try.prog w = .ok (.func fn first cap) w := fun _ _ _ _ => rfl
  have HK := hid hk
  have HE : Hid (∀ rv, (rv = q.lv ∧ bel q i = q.np.l) ∨ (rv = .slice none 0 0 ∧ bel q i = []) → rv = q.lv) := by
    rintro rv (⟨rfl, -⟩ | ⟨-, h⟩)
    · rfl
    · rw [hb0, hl] at h; cases h
  have HLl := hid hl
  have HBe := hid (hb0.trans hl)
  obtain ⟨p, c, hp, -, -⟩ := hL.form
  rw [hl] at hp
  have HP := hid hp
  rw [hk] at c0
  clear hp hb0 hl hk
  clear hB1 hB2 hB hW hN hV hh hL
  go_enter Try.func77, Try.ntmps77
  go_upto_region 1 with fail
  rw [← HW.out]
  go_wp2_with (first
    | (refine wpList_load_mid rfl 51 _ rfl w.heap.size 0 rfl q.cells _ HR.out Try.underlying51 rfl size_node ?_)
    | (go_at_call 104; refine HBl.out.mono ?_; rintro e w1 ⟨hb, hbw⟩; obtain ⟨rv, rfl, hv⟩ := hb; replace hv := HE.out _ hv; rw [HP.out] at hv; subst hv; have HB1 := hid hbw; have k0 := (hbw.cell (p := ⟨w.heap.size, 0, none⟩) (block_lt_of_cell c0)).trans c0; have hs1 := hbw.size; have hl1 := lt_of_block HNd.out; have hne1 : w.heap.size ≠ w1.heap.size := (by omega); have k1 : (w1.alloc (.cells #[.slice p 2 c] 47)).cell? ⟨w.heap.size, 0, none⟩ = some (.int .i64 11) := (((Below.refl w1.heap.size w1).alloc (Nat.le_refl _) (.cells #[.slice p 2 c] 47)).cell (p := ⟨w.heap.size, 0, none⟩) (block_lt_of_cell k0)).trans k0; clear hbw))
  simp only [List.length_cons, List.length_nil] at HP
  go_ret
  have hs := HBx.out.size
  have hl2 := lt_of_block HV.out
  have hB2 : Below w1.heap.size w1 (w1.alloc (.cells #[q.lv] 47)) := (Below.refl _ _).alloc (Nat.le_refl _) _
  have hV2 : (w1.alloc (.cells #[q.lv] 47)).heap[w.heap.size + 1]? = some (.cells #[slB hd n] 80 (0, 0)) := block_on (block_on HV.out HB1.out) hB2
  have hL2 : (w1.alloc (.cells #[q.lv] 47)).heap[w1.heap.size]? = some (.cells #[q.lv] 47 (0, 0)) := alloc_block w1 _
  have hSl := (HL.out.on HB1.out).on hB2
  rw [HLl.out] at hSl
  have hBB : Below w.heap.size w (w1.alloc (.cells #[q.lv] 47)) := HBx.out.trans ((HB1.out.alloc HB1.out.size _).mono HBx.out.size)
  rw [HP.out] at hV2 hL2 hBB
  refine ⟨_, rfl, rfl, .and (w.heap.size + 1) w1.heap.size a b HK.out hin hV2 (by rw [HP.out]; exact hL2) (by have := hSl; rw [HP.out] at this ⊢; exact this) HBe.out, hBB⟩
set_option maxRecDepth 100000 in
set_option maxHeartbeats 4000000 in
theorem nt_or {hd n i : Nat} {q : Nx} {cs : List TN.Cl} {cv : Value} {w : World} {a b : Nat} (hk : q.np.kind = 12) (hb0 : bel q i = q.np.l) (hl : q.np.l = [(a : Int), (b : Int)]) (hin : a < n ∧ b < n) (hL : SlAt (fun b => b < hd) int1 1 w q.lv q.np.l) (hh : hd < w.heap.size) : Calls Try.prog 77 #[.agg q.cells.toArray, .int .i64 (i : Int), cv, slB hd n] w (NtP hd n cs q i w) := by
  obtain ⟨W, hW⟩ : ∃ W, W = (w.alloc (.cells q.cells.toArray 51)).alloc (.cells #[slB hd n] 80) := ⟨_, rfl⟩
  have hB1 : Below w.heap.size w (w.alloc (.cells q.cells.toArray 51)) := (Below.refl _ _).alloc (Nat.le_refl _) _
  have hB2 : Below (w.alloc (.cells q.cells.toArray 51)).heap.size (w.alloc (.cells q.cells.toArray 51)) W := by rw [hW]; exact (Below.refl _ _).alloc (Nat.le_refl _) _
  have hB : Below w.heap.size w W := hB1.trans (hB2.mono (by simp))
  have hN : W.heap[w.heap.size]? = some (.cells q.cells.toArray 51 (0, 0)) := block_on (alloc_block w _) hB2
  have hV : W.heap[w.heap.size + 1]? = some (.cells #[slB hd n] 80 (0, 0)) := by
    have := alloc_block (w.alloc (.cells q.cells.toArray 51)) (.cells #[slB hd n] 80)
    rw [hW]; simpa using this
  have c0 : W.cell? ⟨w.heap.size, 0, none⟩ = some (.int .i64 q.np.kind) := block_cell hN 0
  have HR : Hid (W.rangeAt w.heap.size 0 q.cells) := fun j u hj => by rw [block_cell hN, Nat.zero_add, ← Array.getElem?_toList]; exact hj
  have HBl : Hid (Calls Try.prog 104 #[.agg q.cells.toArray, .int .i64 (i : Int)] W fun x w' => BelP q i x ∧ Below W.heap.size W w') := below_any (hL.on hB)
  have HBx := hid hB
  have HW := hid hW
  have HNd := hid hN
  have HV := hid hV
  have HH := hid hh
  have HL := hid (hL.on hB)
  have b14 : (q.np.kind == 14) = false := by rw [hk]; rfl
  have b15 : (q.np.kind == 15) = false := by rw [hk]; rfl
  have hmf : ∀ (fn : Fn) (first cap : Array Value) (w : World), (Instr.makeFunc fn first cap).run Try.prog w = .ok (.func fn first cap) w := fun _ _ _ _ => rfl
  have HK := hid hk
  have HE : Hid (∀ rv, (rv = q.lv ∧ bel q i = q.np.l) ∨ (rv = .slice none 0 0 ∧ bel q i = []) → rv = q.lv) := by
    rintro rv (⟨rfl, -⟩ | ⟨-, h⟩)
    · rfl
    · rw [hb0, hl] at h; cases h
  have HLl := hid hl
  have HBe := hid (hb0.trans hl)
  obtain ⟨p, c, hp, -, -⟩ := hL.form
  rw [hl] at hp
  have HP := hid hp
  rw [hk] at c0
  clear hp hb0 hl hk
  clear hB1 hB2 hB hW hN hV hh hL
  go_enter Try.func77, Try.ntmps77
  go_upto_region 1 with fail
  rw [← HW.out]
  go_wp2_with (first
    | (refine wpList_load_mid rfl 51 _ rfl w.heap.size 0 rfl q.cells _ HR.out Try.underlying51 rfl size_node ?_)
    | (go_at_call 104; refine HBl.out.mono ?_; rintro e w1 ⟨hb, hbw⟩; obtain ⟨rv, rfl, hv⟩ := hb; replace hv := HE.out _ hv; rw [HP.out] at hv; subst hv; have HB1 := hid hbw; have k0 := (hbw.cell (p := ⟨w.heap.size, 0, none⟩) (block_lt_of_cell c0)).trans c0; have hs1 := hbw.size; have hl1 := lt_of_block HNd.out; have hne1 : w.heap.size ≠ w1.heap.size := (by omega); have k1 : (w1.alloc (.cells #[.slice p 2 c] 47)).cell? ⟨w.heap.size, 0, none⟩ = some (.int .i64 12) := (((Below.refl w1.heap.size w1).alloc (Nat.le_refl _) (.cells #[.slice p 2 c] 47)).cell (p := ⟨w.heap.size, 0, none⟩) (block_lt_of_cell k0)).trans k0; clear hbw))
  simp only [List.length_cons, List.length_nil] at HP
  go_ret
  have hs := HBx.out.size
  have hl2 := lt_of_block HV.out
  have hB2 : Below w1.heap.size w1 (w1.alloc (.cells #[q.lv] 47)) := (Below.refl _ _).alloc (Nat.le_refl _) _
  have hV2 : (w1.alloc (.cells #[q.lv] 47)).heap[w.heap.size + 1]? = some (.cells #[slB hd n] 80 (0, 0)) := block_on (block_on HV.out HB1.out) hB2
  have hL2 : (w1.alloc (.cells #[q.lv] 47)).heap[w1.heap.size]? = some (.cells #[q.lv] 47 (0, 0)) := alloc_block w1 _
  have hSl := (HL.out.on HB1.out).on hB2
  rw [HLl.out] at hSl
  have hBB : Below w.heap.size w (w1.alloc (.cells #[q.lv] 47)) := HBx.out.trans ((HB1.out.alloc HB1.out.size _).mono HBx.out.size)
  rw [HP.out] at hV2 hL2 hBB
  refine ⟨_, rfl, rfl, .or (w.heap.size + 1) w1.heap.size a b HK.out hin hV2 (by rw [HP.out]; exact hL2) (by have := hSl; rw [HP.out] at this ⊢; exact this) HBe.out, hBB⟩
/- Any node's test. -/
theorem nodeTest_any {hd n i : Nat} {q : Nx} {cs : List TN.Cl} {cv : Value} {w : World} (hc : TN.ColsAt w cv cs) (hL : SlAt (fun b => b < hd) int1 1 w q.lv q.np.l) (hh : hd < w.heap.size) (hin : i < n) : Calls Try.prog 77 #[.agg q.cells.toArray, .int .i64 (i : Int), cv, slB hd n] w (NtP hd n cs q i w) := by
  by_cases h14 : q.np.kind = 14
  · exact nt_cmp h14 hc hh
  · by_cases h15 : q.np.kind = 15
    · exact nt_has h15 hc hh
    · by_cases hb : bel q i = []
      · exact nt_never h14 h15 hb hL hh
      · have hb0 : bel q i = q.np.l := by
          unfold bel at hb ⊢
          split
          · rfl
          · rename_i hn; rw [if_neg hn] at hb; exact absurd rfl hb
        have hne : q.np.l ≠ [] := by rw [← hb0]; exact hb
        rcases bel_kind hb0 hne with hk | hk | hk
        · obtain ⟨a, ha, hai⟩ := bel_one hk hb0 hne
          exact nt_not hk hb0 ha (by omega) hL hh
        · obtain ⟨a, b, ha, hai, hbi⟩ := bel_two (.inl hk) hb0 hne
          exact nt_and hk hb0 ha ⟨by omega, by omega⟩ hL hh
        · obtain ⟨a, b, ha, hai, hbi⟩ := bel_two (.inr hk) hb0 hne
          exact nt_or hk hb0 ha ⟨by omega, by omega⟩ hL hh
end Go.Proofs.Ytcidijjbcebcbaa.PD
namespace Go.Proofs.Ytcidijjbcebcbaa.PD
open Go.RowKit Go.Joins

/- The reference's values, k nodes on, n of them in all. -/
def okA (os : List Bool) (k n : Nat) : List Bool := os.take k ++ List.replicate (n - k) false
theorem okA_len {os : List Bool} {k n : Nat} (hk : k ≤ n) (ho : n ≤ os.length) : (okA os k n).length = n := by
  unfold okA; rw [List.length_append, List.length_take, List.length_replicate]; omega
theorem okA_zero (os : List Bool) (n : Nat) : okA os 0 n = List.replicate n false := by
  unfold okA; rw [List.take_zero, List.nil_append, Nat.sub_zero]
theorem okA_set {os : List Bool} {k n : Nat} {b : Bool} (hk : k < n) (h : os[k]? = some b) : (okA os k n).set k b = okA os (k + 1) n := by
  obtain ⟨hl, hb⟩ := List.getElem?_eq_some_iff.1 h
  unfold okA
  obtain ⟨m, hm⟩ : ∃ m, n - k = m + 1 := ⟨n - k - 1, by omega⟩
  rw [hm, show n - (k + 1) = m by omega, List.replicate_succ, List.set_append, if_neg (by rw [List.length_take]; omega), List.length_take, show k - min k os.length = 0 by omega, List.set_cons_zero, List.take_add_one, h, List.append_assoc]
  rfl
theorem okA_at {os : List Bool} {k n : Nat} {a : Int} (h0 : 0 ≤ a) (ha : a < (k : Int)) (ho : k ≤ os.length) : hsAt (okA os k n) a = hsAt os a := by
  unfold hsAt okA
  rw [List.getD_eq_getElem?_getD, List.getD_eq_getElem?_getD, List.getElem?_append_left (by rw [List.length_take]; omega), List.getElem?_take_of_lt (by omega)]
theorem okA_fin {os : List Bool} {n : Nat} {a : Nat} (ha : a < n) (ho : n ≤ os.length) : hsAt (okA os n n) (a : Int) = hsAt os (a : Int) := okA_at (by omega) (by omega) ho
/- As many below as there are to be, each ahead. -/
def want1 (k : Int) : Nat := if k = 13 then 1 else 2
def blT (q : Nx) (k m : Nat) : Bool := decide (q.np.l.length = want1 q.np.kind) && (q.np.l.take m).all fun e => decide (0 ≤ e) && decide (e < (k : Int))
def blB (q : Nx) (k : Nat) : Bool := decide (q.np.l.length = want1 q.np.kind) && ahead q.np.l k
theorem blT_zero (q : Nx) (k : Nat) : blT q k 0 = decide (q.np.l.length = want1 q.np.kind) := by unfold blT; simp
theorem blT_next {q : Nx} {k m : Nat} {e : Int} (h : q.np.l[m]? = some e) (hb : blT q k m = true) : blT q k (m + 1) = (decide (0 ≤ e) && decide (e < (k : Int))) := by
  unfold blT at hb ⊢
  rw [Bool.and_eq_true] at hb
  rw [hb.1, Bool.true_and, List.take_add_one, h, Option.toList_some, List.all_append, hb.2, Bool.true_and]
  simp
theorem blT_end {q : Nx} {k m : Nat} (h : q.np.l.length ≤ m ∨ blT q k m = false) (_hm : m ≤ q.np.l.length) : blT q k m = blB q k := by
  rcases h with h | h
  · unfold blT blB ahead; rw [List.take_of_length_le h]
  · rw [h]
    unfold blT at h
    unfold blB ahead
    by_cases h1 : q.np.l.length = want1 q.np.kind
    · rw [decide_eq_true h1, Bool.true_and] at h ⊢
      symm
      rw [List.all_eq_false] at h ⊢
      obtain ⟨e, he, h2⟩ := h
      exact ⟨e, List.mem_of_mem_take he, h2⟩
    · rw [decide_eq_false h1]; rfl
theorem blB_bel {q : Nx} {k : Nat} (h : q.np.kind = 13 ∨ q.np.kind = 11 ∨ q.np.kind = 12) : bel q k = if blB q k = true then q.np.l else [] := by
  unfold bel blB
  have h1 : how1 q.np.kind = want1 q.np.kind := by
    unfold how1 want1
    rcases h with h | h | h <;> rw [h] <;> decide
  rw [h1]
  by_cases c : q.np.l.length = want1 q.np.kind
  · simp [c]
  · simp [c]
theorem tst_not {cs : List TN.Cl} {q : Nx} {k : Nat} {hs : List Bool} {row : TN.Rw} (h : q.np.kind = 13) : tst cs q k hs row = (blB q k && !hsAt hs (q.np.l.getD 0 0)) := by
  unfold tst
  rw [if_neg (by omega), if_neg (by omega), blB_bel (.inl h)]
  by_cases c : blB q k = true
  · rw [if_pos c, c, Bool.true_and]
    have hl : q.np.l.length = 1 := by
      unfold blB at c
      rw [Bool.and_eq_true] at c
      have := of_decide_eq_true c.1
      unfold want1 at this
      rw [if_pos h] at this; exact this
    match hq : q.np.l, hl with
    | [a], _ => simp [h]
  · rw [if_neg c]
    simp at c
    rw [c]; rfl
theorem two_of {q : Nx} {k : Nat} (c : blB q k = true) (h : q.np.kind ≠ 13) : q.np.l.length = 2 := by
  unfold blB at c
  rw [Bool.and_eq_true] at c
  have := of_decide_eq_true c.1
  unfold want1 at this
  rw [if_neg h] at this; exact this
theorem tst_and {cs : List TN.Cl} {q : Nx} {k : Nat} {hs : List Bool} {row : TN.Rw} (h : q.np.kind = 11) : tst cs q k hs row = (blB q k && hsAt hs (q.np.l.getD 0 0) && hsAt hs (q.np.l.getD 1 0)) := by
  unfold tst
  rw [if_neg (by omega), if_neg (by omega), blB_bel (.inr (.inl h))]
  by_cases c : blB q k = true
  · rw [if_pos c, c, Bool.true_and]
    match hq : q.np.l, two_of c (by omega) with
    | [a, b], _ => simp [h]
  · rw [if_neg c]
    simp at c
    rw [c]; rfl
theorem tst_or {cs : List TN.Cl} {q : Nx} {k : Nat} {hs : List Bool} {row : TN.Rw} (h : q.np.kind = 12) : tst cs q k hs row = (blB q k && (hsAt hs (q.np.l.getD 0 0) || hsAt hs (q.np.l.getD 1 0))) := by
  unfold tst
  rw [if_neg (by omega), if_neg (by omega), blB_bel (.inr (.inr h))]
  by_cases c : blB q k = true
  · rw [if_pos c, c, Bool.true_and]
    match hq : q.np.l, two_of c (by omega) with
    | [a, b], _ => simp [h]
  · rw [if_neg c]
    simp at c
    rw [c]; rfl
theorem tst_else {cs : List TN.Cl} {q : Nx} {k : Nat} {hs : List Bool} {row : TN.Rw} (h1 : q.np.kind ≠ 11) (h2 : q.np.kind ≠ 12) (h3 : q.np.kind ≠ 13) (h4 : q.np.kind ≠ 14) (h5 : q.np.kind ≠ 15) : tst cs q k hs row = false := by
  unfold tst
  rw [if_neg h4, if_neg h5]
  split
  · rw [if_neg h3]
  · rw [if_neg h1, if_neg h2]
  · rfl
theorem blB_mem {q : Nx} {k : Nat} (c : blB q k = true) {j : Nat} {e : Int} (h : q.np.l[j]? = some e) : 0 ≤ e ∧ e < (k : Int) := by
  unfold blB at c
  rw [Bool.and_eq_true] at c
  exact ahead_mem c.2 (List.mem_of_getElem? h)
end Go.Proofs.Ytcidijjbcebcbaa.PD
namespace Go.Proofs.Ytcidijjbcebcbaa.PD
open Go.RowKit Go.Joins

theorem has_at {s sub : ByteArray} {k : Nat} (hno : Lib.NoOccB s sub k) (hi : k + sub.size ≤ s.size) (hp : ((s.extract k (k + sub.size)).toList == sub.toList) = true) : Lib.contains s.data.toList sub.data.toList = true := by
  have := Lib.hit s sub k hno hi hp
  unfold Lib.contains
  rw [show Lib.index s.data.toList sub.data.toList = (k : Int) from this]
  exact decide_eq_true (by omega)
theorem has_not {s sub : ByteArray} {k : Nat} (hno : Lib.NoOccB s sub k) (hi : s.size < k + sub.size) : Lib.contains s.data.toList sub.data.toList = false := by
  by_cases h0 : 1 ≤ sub.size
  · have := Lib.past s sub k hno h0 hi
    unfold Lib.contains
    rw [show Lib.index s.data.toList sub.data.toList = -1 from this]
    rfl
  · have hz : sub.data.toList = [] := List.length_eq_zero_iff.1 (by rw [← Lib.size_eq]; omega)
    exfalso
    have := hno 0 (by omega)
    rw [hz] at this
    simp [Lib.occAt] at this
set_option maxRecDepth 100000 in
set_option maxHeartbeats 1000000 in
theorem part_any (s sub : ByteArray) (h1 : s.size ≤ 1000000000000) (h2 : sub.size ≤ 1000000000000) (w : World) : Calls Try.prog 48 #[.string sub, .string s] w fun e w' => e = .returned (.bool (Lib.contains s.data.toList sub.data.toList)) ∧ w' = w := by
  generalize hr : Lib.contains s.data.toList sub.data.toList = r
  have HR := hid hr
  clear hr
  have sI : (s.size : Int) ≤ 1000000000000 := by omega
  have uI : (sub.size : Int) ≤ 1000000000000 := by omega
  go_enter Try.func48, Try.ntmps48
  go_wp2
  go_loopw [5] (fun i wr => ∃ k : Nat, k ≤ s.size + 1 ∧ i = .int .i64 k ∧ Hid (Lib.NoOccB s sub k) ∧ wr = w) (fun i _ => s.size + 1 - (intOf i).toNat)
  case atStart => exact ⟨0, by omega, rfl, fun j h => absurd h (Nat.not_lt_zero _), rfl⟩
  case round =>
    obtain ⟨k, hk, rfl, HA, hwr⟩ := hrel
    replace hwr := hwr.symm
    subst hwr
    by_cases hlt : k + sub.size ≤ s.size
    · have ltI : (k : Int) + (sub.size : Int) ≤ (s.size : Int) := by omega
      have k0 : (0 : Int) ≤ k := by omega
      have w1 : IntKind.i64.wrap ((k : Int) + (sub.size : Int)) = (k : Int) + (sub.size : Int) := by rw [IntKind.wrap_i64]; omega
      have w2 : ((k : Int) + (sub.size : Int)).toNat = k + sub.size := by omega
      have w3 : (k : Int) ≤ (k : Int) + (sub.size : Int) := by omega
      cases hb : ((s.extract k (k + sub.size)).toList == sub.toList) with
      | true =>
        have HF := hid (has_at HA.out hlt hb)
        go_wp2
        go_ret
        exact ⟨TN.ret_bool (HF.out.symm.trans HR.out), rfl⟩
      | false =>
        have HF := hid (Lib.miss_piece s sub k HA.out hlt hb)
        go_wp2
        go_roundw
        case rel => exact ⟨k + 1, by omega, by go_num, HF.out, trivial⟩
        case measure => simp [intOf]; omega
    · have ltI : ¬ (k : Int) + (sub.size : Int) ≤ (s.size : Int) := by omega
      have w1 : IntKind.i64.wrap ((k : Int) + (sub.size : Int)) = (k : Int) + (sub.size : Int) := by rw [IntKind.wrap_i64]; omega
      have HF := hid (has_not HA.out (by omega))
      go_wp2
      go_ret
      exact ⟨TN.ret_bool (HF.out.symm.trans HR.out), rfl⟩
end Go.Proofs.Ytcidijjbcebcbaa.PD
namespace Go.Proofs.Ytcidijjbcebcbaa
open Go.RowKit Go.Joins

theorem size_nodeX : (Try.prog.info? 51).map (·.size) = some 19 := size_node
theorem load_nx {ops : Array Oper} {rest : List Oper} {op : Oper} {a : Act} {w : World} {Q : Exit → Act → World → Prop} (hgd : op.guard = none) (x : Operand) (ho : op.op = .load 51 x) {g o : Nat} {q : Nx} (hx : a.eval x = .pointer (some ⟨g, o, none⟩)) (hc : CellsAt w g o q.cells)
    (h : wpList Try.prog ops Q rest (a.put op.dst (.agg q.cells.toArray)) w) : wpList Try.prog ops Q (op :: rest) a w :=
  wpList_load_mid hgd 51 x ho g o hx q.cells _ hc Try.underlying51 rfl size_node h
theorem store_nx {ops : Array Oper} {rest : List Oper} {op : Oper} {a : Act} {w : World} {Q : Exit → Act → World → Prop} (hgd : op.guard = none) (x y : Operand) (ho : op.op = .store 51 x y) {g : Nat} {q : Nx} (hx : a.eval x = dp g) (hy : a.eval y = .agg q.cells.toArray) (h1 : ∀ c ∈ q.cells, c.oneCell' = true) {old : Array Value} (hg : w.heap[g]? = some (.cells old 51 (0, 0))) (hs : old.size = 19)
    (h : ∀ w', w'.heap[g]? = some (.cells q.cells.toArray 51 (0, 0)) → Kp (fun k => k = g) w w' → wpList Try.prog ops Q rest (a.put op.dst undef) w') : wpList Try.prog ops Q (op :: rest) a w :=
  wpList_store_row hgd 51 x y ho hx hy hg size_node (by rw [hs]; rfl) (all_oneCell_toArray h1) (fun w' h1 h2 _ => h w' h1 h2)
theorem tree_drop {ns : List Np} {i : Nat} {seen : List Int} {n : Np} (h : ns[i]? = some n) : treeL (ns.drop i) i seen = if (n.l.length : Int) = belowN n.kind then (match nmL i seen n.l with | none => false | some s => treeL (ns.drop (i + 1)) (i + 1) s) else false := by
  have hi := (List.getElem?_eq_some_iff.1 h).1
  have e : ns.drop i = n :: ns.drop (i + 1) := by
    rw [List.drop_eq_getElem_cons hi]
    congr 1
    exact (List.getElem?_eq_some_iff.1 h).2
  rw [e]; rfl
theorem nm_drop {l : List Int} {i j : Nat} {seen : List Int} {k : Int} (h : l[j]? = some k) : nmL i seen (l.drop j) = if k < 0 ∨ (i : Int) ≤ k ∨ k ∈ seen then none else nmL i (k :: seen) (l.drop (j + 1)) := by
  have hi := (List.getElem?_eq_some_iff.1 h).1
  have e : l.drop j = k :: l.drop (j + 1) := by
    rw [List.drop_eq_getElem_cons hi]
    congr 1
    exact (List.getElem?_eq_some_iff.1 h).2
  rw [e]; rfl
theorem SlAt.bel {α : Type} {enc : α → List Value} {k B : Nat} {w w' : World} {v : Value} {xs : List α} (h : SlAt (fun b => b < B) enc k w v xs) (hb : Below B w w') : SlAt (fun b => b < B) enc k w' v xs := by
  obtain ⟨p, cap, hv, hc, hx⟩ := h
  refine ⟨p, cap, hv, hc, fun hne => ?_⟩
  obtain ⟨b, o, hp, hQ, hj⟩ := hx hne
  exact ⟨b, o, hp, hQ, fun j x hjx i u hu => (hb.cell (p := ⟨b, o + j * k + i, none⟩) hQ).trans (hj j x hjx i u hu)⟩
end Go.Proofs.Ytcidijjbcebcbaa
