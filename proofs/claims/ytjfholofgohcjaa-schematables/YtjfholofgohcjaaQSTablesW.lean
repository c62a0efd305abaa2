/-
  The walk of catchmentlaw05.SchemaTables.
-/
import Derived.Test.YtjfholofgohcjaaQSFitsW
namespace Go.Proofs.Ytjfholofgohcjaa
open Go.RowKit Go.Sort Go.Shelf

abbrev B4 (bx : Nat) (t a b : Value) (w : World) : Prop := w.cell? ⟨bx, 2, none⟩ = some t ∧ w.cell? ⟨bx, 1, none⟩ = some a ∧ w.cell? ⟨bx, 3, none⟩ = some b
theorem b4D {w : World} {bx : Nat} {t a b : Value} (h : B4 bx t a b w) : B4 bx t a b w.drew := h
theorem b4A {w : World} {bx : Nat} {t a b : Value} (h : B4 bx t a b w) (o : Obj) : B4 bx t a b (w.alloc o) := ⟨Lib.cell?_alloc_some _ h.1, Lib.cell?_alloc_some _ h.2.1, Lib.cell?_alloc_some _ h.2.2⟩
def vTm (t : Int) : Vl := ⟨1, t, ⟨#[]⟩, 0, 0, 0, 0, 0, 0, 0, 0, by decide⟩
theorem vTm_fit (t : Int) : fitB 1 (vTm t) = true := rfl
theorem one_rows {w : World} {B : Nat} {r : Value} {q : Rw} (h : w.heap[B]? = some (.cells #[r] 65)) (hr : RowAt w r q) : RowsAt w (.slice (some ⟨B, 0, none⟩) 1 1) [q] :=
  ⟨[r], (lit_sl (xs := [r]) h one_len rfl rfl (Nat.le_refl _) (by simp)).imp fun _ _ => trivial, rfl, fun j x y e1 e2 => by
    match j, e1, e2 with
    | 0, e1, e2 => cases e1; cases e2; exact hr
    | j + 1, e1, _ => simp at e1⟩
theorem own_v1 {B : Nat} {w : World} {x : Vl} (hB : B ≤ w.heap.size) : Own Vl.cells 11 44 B (w.alloc (.cells (vc x) 44)) (.slice (some ⟨w.heap.size, 0, none⟩) 1 1) [x] :=
  ⟨rfl, .inr ⟨w.heap.size, 1, _, rfl, hB, alloc_block w _, Nat.le_refl _, by decide, rfl, rfl⟩⟩
theorem small11 {n : Nat} (h : n ≤ 4096) : n * bsz 11 ≤ 140737488355328 := by unfold bsz; simp; omega
theorem fits_ok {l : List Sc} {p : Pt} (hc : checkS l = 0) (h : fitsS l p = 0) : ∃ j : Nat, j < l.length ∧ atS l p.sc = (j : Int) ∧ mayB l[j]! = true ∧ fitP l[j]! p = true := by
  unfold fitsS at h
  split at h
  · omega
  · rename_i hz
    obtain ⟨j, hj, hat⟩ := at_nat hz
    rw [hat, Int.toNat_natCast] at h
    split at h
    · rename_i hf
      refine ⟨j, hj, hat, ?_, hf⟩
      rw [getElem!_pos l j hj]
      exact (check_parts0 hc).2.1 _ (List.getElem_mem hj)
    · omega
theorem may_len {s : Sc} (h : mayB s = true) : s.ks.length ≤ 4 ∧ s.vs.length ≤ 4 := by
  simp only [mayB, Bool.and_eq_true] at h
  exact ⟨(kinds_len h.2.1).2, (kinds_len h.2.2.1).2⟩
theorem fit_len {s : Sc} {p : Pt} (h : mayB s = true) (hf : fitP s p = true) : List.length p.ks ≤ 4 ∧ List.length p.vs ≤ 4 := by
  simp only [fitP, Bool.and_eq_true, rowB, decide_eq_true_eq] at hf
  have := may_len h
  omega
theorem rcheck_is {v : Value} {cs : List Cl} {rs : List Rw} {w : World} {r : Int} (hv : TabAt w v cs rs) (h : checkV cs rs = r) : Calls Try.prog 15 #[v] w fun e w' => e = .returned (.int .i64 r) ∧ Below w.heap.size w w' := by rw [← h]; exact rcheck_any hv
set_option maxRecDepth 100000 in
set_option maxHeartbeats 4000000 in
theorem schemaTables_any {v u : Value} {l : List Sc} {p : Pt} {w : World} (hv : SchsAt w v l) (hp : PtAt w u p) :
    Calls Try.prog 10 #[v, u] w fun e w' => e = .returned (.bool true) ∧ Below w.heap.size w w' := by
  have HV := hid hv
  obtain ⟨hs, ⟨q, cap, rfl, -, hmax, -⟩, -⟩ := hv
  unfold maxLen at hmax
  have HP := hid hp
  obtain ⟨kv, vv, rfl, hk1, hk2⟩ := hp
  have HK := hid hk1
  have HW := hid hk2
  obtain ⟨pk, ck, rfl, -⟩ := hk1
  obtain ⟨pv, cv, rfl, -⟩ := hk2
  generalize hnk : List.length p.ks = nk at *
  generalize hnv : List.length p.vs = nv at *
  have HNK := hid hnk
  have HNV := hid hnv
  clear hnk hnv
  generalize hs.length = n at *
  have HB := hid ((Below.refl w.heap.size w).alloc (Nat.le_refl _) (.cells #[.string p.sc, .slice pk nk ck, .int .i64 p.tm, .slice pv nv cv] 67))
  have KB := hid (alloc_block w (.cells #[.string p.sc, .slice pk nk ck, .int .i64 p.tm, .slice pv nv cv] 67))
  by_cases h20 : 20 < n
  · have g : (20 : Int) < (n : Int) := by omega
    go_enter Try.func10, Try.ntmps10
    go_wp2_with (go_at_call 30; refine shown5_any.mono ?_; rintro e w1 ⟨rfl, hb1⟩; have HB1 := hid (below_on HB.out hb1); clear hb1)
    go_ret
    exact ⟨rfl, HB1.out⟩
  · have g : ¬ (20 : Int) < (n : Int) := by omega
    by_cases hc : checkS l = 0
    · by_cases hf : fitsS l p = 0
      · obtain ⟨j, hj, hat, hmay, hfit⟩ := fits_ok hc hf
        generalize hs0 : l[j]! = s at *
        have HS0 := hid hs0
        have HML := hid (may_len hmay)
        have HFL := hid (fit_len hmay hfit)
        have HTB := hid (table_ok hmay hfit (vTm_fit p.tm))
        have HC := hid hc
        have HF := hid hf
        have HAT := hid hat
        have HFD : Hid (∀ W, SchsAt W (.slice q n cap) l → Calls Try.prog 31 #[.slice q n cap, .string p.sc] W (FoundAt W s)) := fun W hW => by rw [← HS0.out]; exact sfind_some hW HAT.out
        clear hc hf hat hmay hfit hs0 hj
        go_enter Try.func10, Try.ntmps10
        go_wp2_with (first
          | (go_at_call 30; refine shown5_any.mono ?_; rintro e w1 ⟨rfl, hb1⟩; have HB1 := hid (below_on HB.out hb1); have KB1 := hid (block_on KB.out hb1); clear hb1)
          | (go_at_call 39; refine (scheck_is (HV.out.on HB1.out) HC.out).mono ?_; rintro e w2 ⟨rfl, hb2⟩; have HB2 := hid (below_on HB1.out hb2); have KB2 := hid (block_on KB1.out hb2); have kb2 := block_cell KB2.out; clear hb2)
          | (go_at_call 41; refine (sfits_is (HV.out.on HB2.out) (HP.out.on HB2.out) HF.out).mono ?_; rintro e w3 ⟨rfl, hb3⟩; have HB3 := hid (below_on HB2.out hb3); have KB3 := hid (block_on KB2.out hb3); have kb3 := block_cell KB3.out; clear hb3 kb2)
          | (go_at_call 31; refine (HFD.out _ (HV.out.on HB3.out)).mono ?_; rintro e w4 ⟨ak, ak2, ak3, av, av2, av3, rfl, g1, g2, hb4⟩; have HB4 := hid (below_on HB3.out hb4); have KB4 := hid (block_on KB3.out hb4); have G1 := hid g1; have G2 := hid g2; clear hb4 g1 g2 kb3))
        have HBW := hid (HB4.out.alloc HB4.out.size (.cells #[.string s.nm, .slice ak ak2 ak3, .slice av av2 av3] 56))
        have KBW := hid (blk_upS KB4.out (.cells #[.string s.nm, .slice ak ak2 ak3, .slice av av2 av3] 56))
        have KCW := hid (alloc_block w4 (.cells #[.string s.nm, .slice ak ak2 ak3, .slice av av2 av3] 56))
        have SCW : Hid (ScAt (w4.alloc (.cells #[.string s.nm, .slice ak ak2 ak3, .slice av av2 av3] 56)) (.agg #[.string s.nm, .slice ak ak2 ak3, .slice av av2 av3]) s) := ⟨_, _, rfl, ColsAt.on G1.out ((Below.refl _ _).alloc (Nat.le_refl _) _), ColsAt.on G2.out ((Below.refl _ _).alloc (Nat.le_refl _) _)⟩
        generalize w4.heap.size = BX at *
        generalize (w4.alloc (.cells #[.string s.nm, .slice ak ak2 ak3, .slice av av2 av3] 56)) = W at *
        have hS0 : B4 w.heap.size (.int .i64 p.tm) (.slice pk nk ck) (.slice pv nv cv) W := ⟨block_cell KBW.out 2, block_cell KBW.out 1, block_cell KBW.out 3⟩
        have HA1 : Hid (Below W.heap.size W (W.drew.alloc (.cells (vc (vTm p.tm)) 44))) := lowD W _
        have HKB : Hid (∀ w3, Below W.heap.size W w3 → B4 w.heap.size (.int .i64 p.tm) (.slice pk nk ck) (.slice pv nv cv) w3) := fun w3 h => by
          have h1 := block_on KBW.out h
          exact ⟨block_cell h1 2, block_cell h1 1, block_cell h1 3⟩
        have M1 : Hid True := trivial
        go_region_held3 (B4 w.heap.size (.int .i64 p.tm) (.slice pk nk ck) (.slice pv nv cv)) (((repeat (first | (with_reducible refine b4D ?_) | (with_reducible refine b4A ?_ _))); (with_reducible assumption)))
          (first
          | (have FIRST := M1; refine step_appC elem48 vl_len (fun x _ => vl_cells x) rfl (.tmp 35) (.tmp 37) rfl (by simp [Act.eval]; try rfl) (by simp [Act.eval]; try rfl) (own_v1 (x := vTm p.tm) (w := W.drew) (Nat.le_refl _)) (HK.out.on (below_on HBW.out HA1.out)) (small11 (by have := HFL.out; simp; omega)) HA1.out.size ?_; intro v5 w5 hown5 hb5 _; have HO5 := hid hown5; have S5 := hid (HA1.out.trans hb5); have hS5 := HKB.out w5 S5.out; obtain ⟨p5, c5, rfl, -⟩ := (Own.sl hown5 vl_len (small11 (by have := HFL.out; simp; omega))); clear hown5 hb5 FIRST M1 hS0)
          | (have FIRST := HO5; refine step_appC elem48 vl_len (fun x _ => vl_cells x) rfl (.tmp 38) (.tmp 40) rfl (by simp [Act.eval]; try rfl) (by simp [Act.eval]; try rfl) HO5.out (HW.out.on (below_on HBW.out S5.out)) (small11 (by have := HFL.out; simp; omega)) S5.out.size ?_; intro v6 w6 hown6 hb6 _; have HR6 := hid ((Own.sl hown6 vl_len (small11 (by have := HFL.out; simp; omega))).imp (Q' := any) (fun _ _ => trivial)); have S6 := hid (S5.out.trans hb6); have hS6 := HKB.out w6 S6.out; obtain ⟨p6, c6, e6, -⟩ := HR6.out; generalize List.length ([vTm p.tm] ++ p.ks ++ p.vs) = n6 at e6; subst e6; clear hown6 hb6 FIRST HO5 hS5))
        have kc6 := block_cell (block_on KCW.out S6.out)
        go_wp2_with (first
          | (go_at_call 35; refine (scols_any (SCW.out.on S6.out) (by have := HML.out; omega)).mono ?_; rintro e w7 ⟨v7, rfl, hc7, hb7⟩; have HC7 := hid (ColsAt.on hc7 ((Below.refl _ _).alloc (Nat.le_refl _) (.cells #[.slice p6 n6 c6] 65))); have HR7 := hid (RowIn.on HR6.out (hb7.alloc hb7.size (.cells #[.slice p6 n6 c6] 65))); have S7 := hid ((below_on (below_on HBW.out S6.out) hb7).alloc (below_on (below_on HBW.out S6.out) hb7).size (.cells #[.slice p6 n6 c6] 65)); obtain ⟨p7, c7, rfl, -⟩ := hc7; clear hb7 kc6)
          | (go_at_call 15; refine (rcheck_is ⟨_, _, rfl, HC7.out, one_rows (alloc_block _ _) HR7.out⟩ HTB.out).mono ?_; rintro e w8 ⟨rfl, hb8⟩))
        go_ret
        exact ⟨rfl, below_on S7.out hb8⟩
      · generalize hz : fitsS l p = z at *
        have HZ := hid hz
        have HC := hid hc
        have hne : (z != 0) = true := by simpa using hf
        clear hz hf hc
        go_enter Try.func10, Try.ntmps10
        go_wp2_with (first
          | (go_at_call 30; refine shown5_any.mono ?_; rintro e w1 ⟨rfl, hb1⟩; have HB1 := hid (below_on HB.out hb1); have KB1 := hid (block_on KB.out hb1); clear hb1)
          | (go_at_call 39; refine (scheck_is (HV.out.on HB1.out) HC.out).mono ?_; rintro e w2 ⟨rfl, hb2⟩; have HB2 := hid (below_on HB1.out hb2); have kb2 := block_cell (block_on KB1.out hb2); clear hb2)
          | (go_at_call 41; refine (sfits_is (HV.out.on HB2.out) (HP.out.on HB2.out) HZ.out).mono ?_; rintro e w3 ⟨rfl, hb3⟩))
        go_ret
        exact ⟨rfl, below_on HB2.out hb3⟩
    · generalize hz : checkS l = z at *
      have HZ := hid hz
      have hne : (z != 0) = true := by simpa using hc
      clear hz hc
      go_enter Try.func10, Try.ntmps10
      go_wp2_with (first
        | (go_at_call 30; refine shown5_any.mono ?_; rintro e w1 ⟨rfl, hb1⟩; have HB1 := hid (below_on HB.out hb1); clear hb1)
        | (go_at_call 39; refine (scheck_is (HV.out.on HB1.out) HZ.out).mono ?_; rintro e w2 ⟨rfl, hb2⟩))
      go_ret
      exact ⟨rfl, below_on HB1.out hb2⟩
end Go.Proofs.Ytjfholofgohcjaa
