/-
  What the reference's small and Take return: a kind that there is not, and too few bytes.
  What the reference's Take returns: a number, a truth.
  What the reference's Take returns: a text.
  What the reference's Take returns: a histogram.
  What the reference's Take returns, for any bytes and every kind.
-/
import Derived.Test.YtjfholofgohcjaaPX
namespace Go.Proofs.Ytjfholofgohcjaa
open Go.RowKit Go.Sort Go.Shelf

set_option maxRecDepth 100000 in
set_option maxHeartbeats 400000 in
theorem rsmall_any {v : Value} {xs : List UInt8} {w : World} (hv : BAt w v xs) : Calls Try.prog 67 #[v] w fun e w' => e = .returned (.int .i64 (numB xs)) ∧ w' = w := by
  obtain ⟨p, cap, rfl, hcap, hnone, hmax, hx⟩ := hv
  unfold maxLen at hmax
  have HX := hid hx
  clear hx
  generalize hl : xs.length = l at *
  have HL := hid hl
  clear hl
  go_enter Try.func67, Try.ntmps67
  go_wp2
  go_loopw [3, 4] (fun s i wr => ∃ k : Nat, k ≤ l ∧ i = .int .i64 k ∧ s = .int .i64 (numB (xs.take k)) ∧ wr = w) (fun _ i _ => l - (intOf i).toNat)
  case atStart => exact ⟨0, by omega, rfl, rfl, rfl⟩
  case round =>
    obtain ⟨k, hk, rfl, rfl, rfl⟩ := hrel
    generalize hy : numB (xs.take k) = y
    have HY := hid hy
    clear hy
    by_cases hlt : k < l
    · have hkc : k < xs.length := by rw [HL.out]; exact hlt
      obtain ⟨a, rfl, hj⟩ := HX.out (by intro e; subst e; simp at hkc)
      have hc := hj k _ (List.getElem?_eq_getElem hkc)
      have hxk : xs[k]? = some xs[k] := List.getElem?_eq_getElem hkc
      generalize xs[k] = c at hc hxk
      have HK := hid hxk
      clear hj hxk
      go_wp2
      go_roundw
      case rel => exact ⟨k + 1, by omega, by go_num, by rw [numB_snoc HK.out, HY.out]; rfl, by trivial⟩
      case measure => simp [intOf]; omega
    · have hks : k = l := by omega
      subst hks
      go_wp2
      go_ret
      exact ⟨by rw [← HY.out, ← HL.out, List.take_length]; rfl, rfl⟩
theorem add_none (a : Addr) : a.add 0 = a := by simp [Addr.add]
abbrev zV : Value := V 0 0 ⟨#[]⟩ 0 0 0 0 0 0 0 0
set_option maxRecDepth 100000 in
set_option maxHeartbeats 1000000 in
theorem rtake_bad {v : Value} {xs : List UInt8} {k : Int} {w : World} (hv : BAt w v xs) (hk : ¬ (1 ≤ k ∧ k ≤ 4)) :
    Calls Try.prog 24 #[v, .int .i64 k] w fun e w' => e = .returned (.tuple #[zV, .slice none 0 0, .int .i64 10]) ∧ Below w.heap.size w w' := by
  obtain ⟨p, cap, rfl, -⟩ := hv
  have HB := hid ((Below.refl w.heap.size w).alloc (Nat.le_refl _) (.cells zc 44))
  have KB := hid (alloc_block w (.cells zc 44))
  have hcase : k < 1 ∨ (¬ k < 1 ∧ 4 < k) := by omega
  clear hk
  rcases hcase with h1 | ⟨h1, h2⟩
  all_goals
    go_enter Try.func24, Try.ntmps24
    go_wp2
    exact bodyPost_ret (v := .tuple #[zV, .slice none 0 0, .int .i64 10]) (by simp [results, Try.results24, go_sem]) rfl ⟨rfl, HB.out⟩
set_option maxRecDepth 100000 in
set_option maxHeartbeats 1000000 in
theorem rtake_few {v : Value} {xs : List UInt8} {k : Int} {n : Nat} {w : World} (hv : BAt w v xs) (hk : (k = 1 ∧ n = 8) ∨ (k = 3 ∧ n = 1) ∨ (k = 4 ∧ n = 64)) (hl : xs.length < n) :
    Calls Try.prog 24 #[v, .int .i64 k] w fun e w' => e = .returned (.tuple #[zV, .slice none 0 0, .int .i64 40]) ∧ Below w.heap.size w w' := by
  obtain ⟨p, cap, rfl, -⟩ := hv
  generalize xs.length = l at *
  have HB := hid ((Below.refl w.heap.size w).alloc (Nat.le_refl _) (.cells zc 44))
  have KB := hid (alloc_block w (.cells zc 44))
  rcases hk with ⟨rfl, rfl⟩ | ⟨rfl, rfl⟩ | ⟨rfl, rfl⟩
  · have g : (l : Int) < 8 := by omega
    go_enter Try.func24, Try.ntmps24
    go_wp2
    exact bodyPost_ret (v := .tuple #[zV, .slice none 0 0, .int .i64 40]) (by simp [results, Try.results24, go_sem]) rfl ⟨rfl, HB.out⟩
  · have g : (l : Int) < 1 := by omega
    go_enter Try.func24, Try.ntmps24
    go_wp2
    exact bodyPost_ret (v := .tuple #[zV, .slice none 0 0, .int .i64 40]) (by simp [results, Try.results24, go_sem]) rfl ⟨rfl, HB.out⟩
  · have g : (l : Int) < 64 := by omega
    go_enter Try.func24, Try.ntmps24
    go_wp2
    exact bodyPost_ret (v := .tuple #[zV, .slice none 0 0, .int .i64 40]) (by simp [results, Try.results24, go_sem]) rfl ⟨rfl, HB.out⟩
set_option maxRecDepth 100000 in
set_option maxHeartbeats 1000000 in
theorem rtake_2few {v : Value} {xs : List UInt8} {w : World} (hv : BAt w v xs) (hl : xs = [] ∨ ∃ c r, xs = c :: r ∧ r.length < c.toNat) :
    Calls Try.prog 24 #[v, .int .i64 2] w fun e w' => e = .returned (.tuple #[zV, .slice none 0 0, .int .i64 40]) ∧ Below w.heap.size w w' := by
  have HB := hid ((Below.refl w.heap.size w).alloc (Nat.le_refl _) (.cells zc 44))
  have KB := hid (alloc_block w (.cells zc 44))
  rcases hl with rfl | ⟨c, r, rfl, hlt⟩
  · obtain ⟨p, cap, rfl, -⟩ := hv
    go_enter Try.func24, Try.ntmps24
    go_wp2
    exact bodyPost_ret (v := .tuple #[zV, .slice none 0 0, .int .i64 40]) (by simp [results, Try.results24, go_sem]) rfl ⟨rfl, HB.out⟩
  · obtain ⟨p, cap, rfl, hcap, -, hmax, hx⟩ := hv
    obtain ⟨a, rfl, hj⟩ := hx (by simp)
    have hc := hj 0 c rfl
    have hc2 := Lib.cell?_alloc_some (.cells zc 44) hc
    rw [add_none] at hc2
    unfold maxLen at hmax
    generalize hn : (c :: r).length = n at *
    have hn2 : n = r.length + 1 := by rw [← hn]; rfl
    have g0 : (0 : Int) < (n : Int) := by omega
    have g : (n : Int) < 1 + (c.toNat : Int) := by omega
    have hcb := c.toNat_lt
    clear hj hx hn hn2 hc
    go_enter Try.func24, Try.ntmps24
    go_wp2
    exact bodyPost_ret (v := .tuple #[zV, .slice none 0 0, .int .i64 40]) (by simp [results, Try.results24, go_sem]) rfl ⟨rfl, HB.out⟩
end Go.Proofs.Ytjfholofgohcjaa
namespace Go.Proofs.Ytjfholofgohcjaa
open Go.RowKit Go.Sort Go.Shelf

abbrev V11 (b : Nat) (x : Vl) (w : World) : Prop := w.cell? ⟨b, 0, none⟩ = some (.int .i64 x.k) ∧ w.cell? ⟨b, 1, none⟩ = some (.int .i64 x.n) ∧ w.cell? ⟨b, 2, none⟩ = some (.string x.s) ∧ w.cell? ⟨b, 3, none⟩ = some (.int .i64 x.h0) ∧ w.cell? ⟨b, 4, none⟩ = some (.int .i64 x.h1) ∧ w.cell? ⟨b, 5, none⟩ = some (.int .i64 x.h2) ∧ w.cell? ⟨b, 6, none⟩ = some (.int .i64 x.h3) ∧ w.cell? ⟨b, 7, none⟩ = some (.int .i64 x.h4) ∧ w.cell? ⟨b, 8, none⟩ = some (.int .i64 x.h5) ∧ w.cell? ⟨b, 9, none⟩ = some (.int .i64 x.h6) ∧ w.cell? ⟨b, 10, none⟩ = some (.int .i64 x.h7)
theorem v11_of {w : World} {b : Nat} {x : Vl} (h : w.heap[b]? = some (.cells (vcl x) 44)) : V11 b x w :=
  ⟨block_cell h 0, block_cell h 1, block_cell h 2, block_cell h 3, block_cell h 4, block_cell h 5, block_cell h 6, block_cell h 7, block_cell h 8, block_cell h 9, block_cell h 10⟩
theorem v11D {w : World} {b : Nat} {x : Vl} (h : V11 b x w) : V11 b x w.drew := h
theorem v11A {w : World} {b : Nat} {x : Vl} (h : V11 b x w) (o : Obj) : V11 b x (w.alloc o) := by
  obtain ⟨h0, h1, h2, h3, h4, h5, h6, h7, h8, h9, h10⟩ := h
  exact ⟨Lib.cell?_alloc_some _ h0, Lib.cell?_alloc_some _ h1, Lib.cell?_alloc_some _ h2, Lib.cell?_alloc_some _ h3, Lib.cell?_alloc_some _ h4, Lib.cell?_alloc_some _ h5, Lib.cell?_alloc_some _ h6, Lib.cell?_alloc_some _ h7, Lib.cell?_alloc_some _ h8, Lib.cell?_alloc_some _ h9, Lib.cell?_alloc_some _ h10⟩
theorem v11S {w : World} {b z i : Nat} {x : Vl} {u : Value} (h : V11 b x w) (hne : b ≠ z) : V11 b x (w.setCell ⟨z, i, none⟩ u) := by
  have e := Below.heap_setCell w ⟨z, i, none⟩ u b hne
  obtain ⟨h0, h1, h2, h3, h4, h5, h6, h7, h8, h9, h10⟩ := h
  refine ⟨?_, ?_, ?_, ?_, ?_, ?_, ?_, ?_, ?_, ?_, ?_⟩ <;> (unfold World.cell? at *; rw [e]; assumption)
theorem rvalidV {x : Vl} {r : Bool} {w : World} (h : validL x = r) : Calls Try.prog 50 #[x.val] w fun e w' => e = .returned (.bool r) ∧ Below w.heap.size w w' := by rw [← h]; exact rvalid_any
theorem rvalid_b {k n : Int} {s : ByteArray} {a0 a1 a2 a3 a4 a5 a6 a7 : Int} {r : Bool} {w : World} (h : validB k n s a0 a1 a2 a3 a4 a5 a6 a7 = r) : Calls Try.prog 50 #[V k n s a0 a1 a2 a3 a4 a5 a6 a7] w fun e w' => e = .returned (.bool r) ∧ Below w.heap.size w w' := by rw [← h]; exact rvalid_any
theorem low1' (w : World) (o : Obj) : Below w.heap.size w (w.drew.alloc o) := (Below.refl _ w).drew.alloc (Nat.le_refl _) o
theorem two_blocks (w : World) (x y : Obj) : ((w.alloc x).alloc y).heap[w.heap.size]? = some x ∧ ((w.alloc x).alloc y).heap[w.heap.size + 1]? = some y ∧ Below w.heap.size w ((w.alloc x).alloc y) := by
  have h := alloc_block (w.alloc x) y
  rw [World.size_alloc] at h
  exact ⟨blk_up' (alloc_block w x) y, h, ((Below.refl _ w).alloc (Nat.le_refl _) x).alloc (by rw [World.size_alloc]; omega) y⟩
/- The end of it: the value's block, the bytes behind. -/
theorem fin11 {w w4 : World} {x : Vl} {v : Value} {xs : List UInt8} {B : Nat} (h4 : w4.heap[w.heap.size]? = some (.cells zc 44)) (ho : OwnB B w4 v xs) (hB : w.heap.size < B) (hb : Below w.heap.size w w4) :
    (put11 w4 w.heap.size x.k x.n x.s x.h0 x.h1 x.h2 x.h3 x.h4 x.h5 x.h6 x.h7).heap[w.heap.size]? = some (.cells (vcl x) 44) ∧ OwnB w.heap.size (put11 w4 w.heap.size x.k x.n x.s x.h0 x.h1 x.h2 x.h3 x.h4 x.h5 x.h6 x.h7) v xs ∧ Below w.heap.size w (put11 w4 w.heap.size x.k x.n x.s x.h0 x.h1 x.h2 x.h3 x.h4 x.h5 x.h6 x.h7) :=
  ⟨put11_over _ _ _ _ _ _ _ _ _ _ _ h4, (ho.keep hB (put11_rd ..)).le (Nat.le_of_lt hB), hb.trans ((put11_rd w4 w.heap.size x.k x.n x.s x.h0 x.h1 x.h2 x.h3 x.h4 x.h5 x.h6 x.h7).below (Nat.le_refl _) hb.size)⟩
set_option maxRecDepth 100000 in
set_option maxHeartbeats 2000000 in
theorem rtake_1 {v : Value} {xs : List UInt8} {w : World} (hv : BAt w v xs) (h8 : 8 ≤ xs.length) (hl : xs.length ≤ 140737488355328) :
    Calls Try.prog 24 #[v, .int .i64 1] w fun e w' => ∃ v', e = .returned (.tuple #[(vInt xs).val, v', .int .i64 0]) ∧ OwnB w.heap.size w' v' (xs.drop 8) ∧ Below w.heap.size w w' := by
  have HV := hid hv
  have HL := hid hl
  obtain ⟨p, cap, rfl, hcap, hnone, hmax, -⟩ := hv
  unfold maxLen at hmax
  show Calls Try.prog 24 #[_, .int .i64 1] w fun e w' => ∃ v', e = .returned (.tuple #[V 1 (numB (xs.take 8)) ⟨#[]⟩ 0 0 0 0 0 0 0 0, v', .int .i64 0]) ∧ OwnB w.heap.size w' v' (xs.drop 8) ∧ Below w.heap.size w w'
  generalize hnb : numB (xs.take 8) = nb
  have HNB := hid hnb
  generalize hn : xs.length = n at *
  have HN := hid hn
  have g : ¬ (n : Int) < 8 := by omega
  have hkn : 8 ≤ n := by omega
  have HVAL : Hid (validB 1 nb ⟨#[]⟩ 0 0 0 0 0 0 0 0 = true) := rfl
  clear hn hl hnb
  have HSM : Hid (∀ W, Below w.heap.size w W → Calls Try.prog 67 #[.slice p 8 cap] W fun e w' => e = .returned (.int .i64 nb) ∧ w' = W) := fun W hW => by rw [← HNB.out]; exact rsmall_any ((BAt.take (k := 8) HN.out (by omega) HV.out).on hW)
  have HTB := hid (two_blocks w (.cells zc 44) (.cells (kc 1) 44)).2.2
  have HT2 := hid (two_blocks w (.cells zc 44) (.cells #[.int .i64 1, .int .i64 nb, .string ⟨#[]⟩, .int .i64 0, .int .i64 0, .int .i64 0, .int .i64 0, .int .i64 0, .int .i64 0, .int .i64 0, .int .i64 0] 44))
  go_enter Try.func24, Try.ntmps24
  go_wp2_with (first
    | (go_at_call 67; refine (HSM.out _ HTB.out).mono ?_; rintro e w' ⟨rfl, rfl⟩)
    | (go_at_call 50; refine (rvalid_b HVAL.out).mono ?_; rintro e w1 ⟨rfl, hb1⟩; have HB1 := hid hb1; clear hb1))
  obtain ⟨q4, q8, qb⟩ := HT2.out
  have KB4 := hid (block_on q4 HB1.out)
  have KB8 := hid (block_on q8 HB1.out)
  have HBW := hid (below_on qb HB1.out)
  have HSZ : Hid (w.heap.size + 1 < w1.heap.size) := lt_of_block KB8.out
  clear q4 q8 qb
  have hneB : w.heap.size + 1 ≠ w.heap.size := by omega
  have HD0 := hid (BAt.drop (k := 8) HN.out hkn HV.out)
  have hS0 : V11 (w.heap.size + 1) ⟨1, nb, ⟨#[]⟩, 0, 0, 0, 0, 0, 0, 0, 0, small0⟩ w1 := v11_of KB8.out
  have HA1 : Hid (Below w1.heap.size w1 (w1.drew.alloc (.cells #[] 5))) := low1' w1 _
  have HKB : Hid (∀ x, Below w1.heap.size w1 x → V11 (w.heap.size + 1) ⟨1, nb, ⟨#[]⟩, 0, 0, 0, 0, 0, 0, 0, 0, small0⟩ x) := fun x h => v11_of (block_on KB8.out h)
  have HKZ : Hid (∀ x, Below w1.heap.size w1 x → x.heap[w.heap.size]? = some (.cells zc 44)) := fun x h => block_on KB4.out h
  have HLR : Hid ((xs.drop 8).length ≤ 140737488355328) := by have := HL.out; have := HN.out; show _ ≤ _; rw [List.length_drop]; omega
  have M1 : Hid True := trivial
  go_region_held3 (V11 (w.heap.size + 1) ⟨1, nb, ⟨#[]⟩, 0, 0, 0, 0, 0, 0, 0, 0, small0⟩) (((repeat (first | (with_reducible refine v11D ?_) | (with_reducible refine v11A ?_ _) | (with_reducible refine v11S ?_ hneB))); (with_reducible assumption)))
    (first
    | (have FIRST := M1; refine step_appF rfl (.tmp 81) (.tmp 84) rfl (by simp [Act.eval]; try rfl) (by simp [Act.eval]; try rfl) (OwnB.made w1.heap.size w1.drew (Nat.le_refl _)) (HD0.out.on (below_on HBW.out HA1.out)) (by have := HLR.out; simp only [List.length_nil, Nat.zero_add]; exact this) HA1.out.size ?_; intro v5 w5 hown5 hf5; rw [List.nil_append] at hown5; have HO5 := hid hown5; have S5 := hid (HA1.out.trans hf5.low); have hS5 := HKB.out w5 S5.out; have kz5 := block_cell (HKZ.out w5 S5.out); have fz5 := block_frozen (HKZ.out w5 S5.out); obtain ⟨p5, c5, e5⟩ := hown5.form; generalize (xs.drop 8).length = n5 at e5; subst e5; clear hown5 hf5 FIRST M1 hS0))
  go_wp2_with fail
  all_goals
    have hfin := fin11 (x := ⟨1, nb, ⟨#[]⟩, 0, 0, 0, 0, 0, 0, 0, 0, small0⟩) (HKZ.out w5 S5.out) HO5.out (by have := HSZ.out; omega) (below_on HBW.out S5.out)
    unfold put11 at hfin
    clear kz5 fz5 hS5
    generalize World.setCell _ _ _ = WF at *
    obtain ⟨f1, f2, f3⟩ := hfin
    have kf := block_cell f1
    exact bodyPost_ret (v := .tuple #[(⟨1, nb, ⟨#[]⟩, 0, 0, 0, 0, 0, 0, 0, 0, small0⟩ : Vl).val, .slice p5 n5 c5, .int .i64 0]) (by simp [results, Try.results24, go_sem, kf]) rfl ⟨_, rfl, f2, f3⟩
set_option maxRecDepth 100000 in
set_option maxHeartbeats 2000000 in
theorem rtake_3 {v : Value} {c : UInt8} {r : List UInt8} {w : World} (hv : BAt w v (c :: r)) (hc1 : c.toNat ≤ 1) (hl : (c :: r).length ≤ 140737488355328) :
    Calls Try.prog 24 #[v, .int .i64 3] w fun e w' => ∃ v', e = .returned (.tuple #[(vBool c).val, v', .int .i64 0]) ∧ OwnB w.heap.size w' v' r ∧ Below w.heap.size w w' := by
  have HV := hid hv
  have HL := hid hl
  obtain ⟨p, cap, rfl, hcap, hnone, hmax, hx⟩ := hv
  obtain ⟨a, rfl, hj⟩ := hx (by simp)
  have hc0 := hj 0 c rfl
  rw [add_none] at hc0
  unfold maxLen at hmax
  show Calls Try.prog 24 #[_, .int .i64 3] w fun e w' => ∃ v', e = .returned (.tuple #[V 3 (c.toNat : Int) ⟨#[]⟩ 0 0 0 0 0 0 0 0, v', .int .i64 0]) ∧ OwnB w.heap.size w' v' r ∧ Below w.heap.size w w'
  have HRS : Hid ((c :: r).drop 1 = r) := rfl
  generalize hxs : c :: r = xs at *
  have hpos : 1 ≤ xs.length := by rw [← hxs]; simp
  generalize hn : xs.length = n at *
  have HN := hid hn
  have g : ¬ (n : Int) < 1 := by omega
  have hkn : 1 ≤ n := by omega
  have hcb := c.toNat_lt
  have HVAL : Hid (validB 3 (c.toNat : Int) ⟨#[]⟩ 0 0 0 0 0 0 0 0 = true) := by
    show validB 3 (c.toNat : Int) ⟨#[]⟩ 0 0 0 0 0 0 0 0 = true
    have : (c.toNat : Int) = 0 ∨ (c.toNat : Int) = 1 := by omega
    rcases this with h | h <;> rw [h] <;> rfl
  have hwr : IntKind.i64.wrap (c.toNat : Int) = (c.toNat : Int) := by rw [wrap_i64]; unfold wrap64; omega
  clear hn hl hxs hx hj hpos hc1
  have hc2 := Lib.cell?_alloc_some (.cells (kc 3) 44) (Lib.cell?_alloc_some (.cells zc 44) hc0)
  have HT2 := hid (two_blocks w (.cells zc 44) (.cells #[.int .i64 3, .int .i64 (c.toNat : Int), .string ⟨#[]⟩, .int .i64 0, .int .i64 0, .int .i64 0, .int .i64 0, .int .i64 0, .int .i64 0, .int .i64 0, .int .i64 0] 44))
  generalize hci : (c.toNat : Int) = ci at *
  go_enter Try.func24, Try.ntmps24
  go_wp2_with (first
    | (go_at_call 50; refine (rvalid_b HVAL.out).mono ?_; rintro e w1 ⟨rfl, hb1⟩; have HB1 := hid hb1; clear hb1))
  obtain ⟨q4, q8, qb⟩ := HT2.out
  have KB4 := hid (block_on q4 HB1.out)
  have KB8 := hid (block_on q8 HB1.out)
  have HBW := hid (below_on qb HB1.out)
  have HSZ : Hid (w.heap.size + 1 < w1.heap.size) := lt_of_block KB8.out
  clear q4 q8 qb
  have hneB : w.heap.size + 1 ≠ w.heap.size := by omega
  have HD0 := hid (BAt.drop (k := 1) HN.out hkn HV.out)
  have hS0 : V11 (w.heap.size + 1) ⟨3, ci, ⟨#[]⟩, 0, 0, 0, 0, 0, 0, 0, 0, small0⟩ w1 := v11_of KB8.out
  have HA1 : Hid (Below w1.heap.size w1 (w1.drew.alloc (.cells #[] 5))) := low1' w1 _
  have HKB : Hid (∀ x, Below w1.heap.size w1 x → V11 (w.heap.size + 1) ⟨3, ci, ⟨#[]⟩, 0, 0, 0, 0, 0, 0, 0, 0, small0⟩ x) := fun x h => v11_of (block_on KB8.out h)
  have HKZ : Hid (∀ x, Below w1.heap.size w1 x → x.heap[w.heap.size]? = some (.cells zc 44)) := fun x h => block_on KB4.out h
  have HLR : Hid ((xs.drop 1).length ≤ 140737488355328) := by have := HL.out; have := HN.out; show _ ≤ _; rw [List.length_drop]; omega
  have M1 : Hid True := trivial
  go_region_held3 (V11 (w.heap.size + 1) ⟨3, ci, ⟨#[]⟩, 0, 0, 0, 0, 0, 0, 0, 0, small0⟩) (((repeat (first | (with_reducible refine v11D ?_) | (with_reducible refine v11A ?_ _) | (with_reducible refine v11S ?_ hneB))); (with_reducible assumption)))
    (first
    | (have FIRST := M1; refine step_appF rfl (.tmp 81) (.tmp 84) rfl (by simp [Act.eval]; try rfl) (by simp [Act.eval]; try rfl) (OwnB.made w1.heap.size w1.drew (Nat.le_refl _)) (HD0.out.on (below_on HBW.out HA1.out)) (by have := HLR.out; simp only [List.length_nil, Nat.zero_add]; exact this) HA1.out.size ?_; intro v5 w5 hown5 hf5; rw [List.nil_append] at hown5; have HO5 := hid hown5; have S5 := hid (HA1.out.trans hf5.low); have hS5 := HKB.out w5 S5.out; have kz5 := block_cell (HKZ.out w5 S5.out); have fz5 := block_frozen (HKZ.out w5 S5.out); obtain ⟨p5, c5, e5⟩ := hown5.form; generalize (xs.drop 1).length = n5 at e5; subst e5; clear hown5 hf5 FIRST M1 hS0))
  go_wp2_with fail
  all_goals
    have hfin := fin11 (x := ⟨3, ci, ⟨#[]⟩, 0, 0, 0, 0, 0, 0, 0, 0, small0⟩) (HKZ.out w5 S5.out) HO5.out (by have := HSZ.out; omega) (below_on HBW.out S5.out)
    unfold put11 at hfin
    clear kz5 fz5 hS5
    generalize World.setCell _ _ _ = WF at *
    obtain ⟨f1, f2, f3⟩ := hfin
    have kf := block_cell f1
    rw [HRS.out] at f2
    exact bodyPost_ret (v := .tuple #[(⟨3, ci, ⟨#[]⟩, 0, 0, 0, 0, 0, 0, 0, 0, small0⟩ : Vl).val, .slice p5 n5 c5, .int .i64 0]) (by simp [results, Try.results24, go_sem, kf]) rfl ⟨_, rfl, f2, f3⟩
end Go.Proofs.Ytjfholofgohcjaa
namespace Go.Proofs.Ytjfholofgohcjaa
open Go.RowKit Go.Sort Go.Shelf

set_option maxRecDepth 100000 in
set_option maxHeartbeats 2000000 in
theorem rtake_2 {v : Value} {c : UInt8} {r : List UInt8} {w : World} (hv : BAt w v (c :: r)) (hc1 : c.toNat ≤ r.length) (hc2 : c.toNat ≤ 64) (hl : (c :: r).length ≤ 140737488355328) :
    Calls Try.prog 24 #[v, .int .i64 2] w fun e w' => ∃ v', e = .returned (.tuple #[(vStr r c).val, v', .int .i64 0]) ∧ OwnB w.heap.size w' v' (r.drop c.toNat) ∧ Below w.heap.size w w' := by
  have HV := hid hv
  have HL := hid hl
  obtain ⟨p, cap, rfl, hcap, hnone, hmax, hx⟩ := hv
  obtain ⟨a, rfl, hj⟩ := hx (by simp)
  have hc0 := hj 0 c rfl
  rw [add_none] at hc0
  unfold maxLen at hmax
  show Calls Try.prog 24 #[_, .int .i64 2] w fun e w' => ∃ v', e = .returned (.tuple #[V 2 0 ⟨(r.take c.toNat).toArray⟩ 0 0 0 0 0 0 0 0, v', .int .i64 0]) ∧ OwnB w.heap.size w' v' (r.drop c.toNat) ∧ Below w.heap.size w w'
  have HB0 : Hid (BAt w (.slice (if cap = 1 then some a else some (a.add 1)) c.toNat (cap - 1)) (r.take c.toNat)) := by
    have h1 := BAt.drop (k := 1) (n := (c :: r).length) rfl (by simp) HV.out
    exact BAt.take (by simp) (by simp; exact hc1) h1
  have hcb := c.toNat_lt
  have HRS : Hid ((c :: r).drop (1 + c.toNat) = r.drop c.toNat) := by show _ = _; rw [Nat.add_comm]; rfl
  have hlen : (c :: r).length = r.length + 1 := rfl
  generalize hxs : c :: r = xs at *
  generalize hn : xs.length = n at *
  have HN := hid hn
  generalize hcn : c.toNat = m at *
  obtain ⟨sz, hsz⟩ : ∃ sz, sz = 1 + m := ⟨_, rfl⟩
  have hs1 : (1 : Int) + (m : Int) = (sz : Int) := by omega
  have hkn : sz ≤ n := by omega
  have hz1 : 1 ≤ sz := by omega
  have g0 : (0 : Int) < (n : Int) := by omega
  have g : ¬ (n : Int) < (sz : Int) := by omega
  rw [← hsz] at HRS
  have HVAL : Hid (validB 2 0 ⟨(r.take m).toArray⟩ 0 0 0 0 0 0 0 0 = true) := by
    show validB 2 0 ⟨(r.take m).toArray⟩ 0 0 0 0 0 0 0 0 = true
    have : (⟨(r.take m).toArray⟩ : ByteArray).size ≤ 64 := by show (r.take m).toArray.size ≤ 64; simp; omega
    simp [validB, this]
    rfl
  generalize hst : (⟨(r.take m).toArray⟩ : ByteArray) = st at *
  have HSTR := hid hst
  generalize hrd : r.drop m = rd at *
  clear hn hl hxs hx hj hst hrd hlen
  have hc2' := Lib.cell?_alloc_some (.cells zc 44) hc0
  have HTB := hid (two_blocks w (.cells zc 44) (.cells (kc 2) 44)).2.2
  have hcv := conv_bat (HB0.out.on HTB.out)
  rw [HSTR.out] at hcv
  have hm1 : m = sz - 1 := by omega
  rw [hm1] at hcv
  have HT2 := hid (two_blocks w (.cells zc 44) (.cells #[.int .i64 2, .int .i64 0, .string st, .int .i64 0, .int .i64 0, .int .i64 0, .int .i64 0, .int .i64 0, .int .i64 0, .int .i64 0, .int .i64 0] 44))
  have hsm : st.size ≤ maxLen := by rw [← HSTR.out]; show (r.take m).toArray.size ≤ maxLen; simp [maxLen]; omega
  have ea : a.add 1 = ⟨a.block, a.off + 1, none⟩ := by simp [Addr.add]
  have HSZ1 := hid hsz
  have HM1 := hid hm1
  clear hsz hm1
  rcases Decidable.em (cap = 1) with h1 | h1
  · subst h1
    rw [if_pos rfl] at hcv
    obtain rfl : sz = 1 := by omega
    obtain rfl : n = 1 := by omega
    go_enter Try.func24, Try.ntmps24
    go_wp2_with (first
      | (go_at_call 50; refine (rvalid_b HVAL.out).mono ?_; rintro e w1 ⟨rfl, hb1⟩; have HB1 := hid hb1; clear hb1))
    obtain ⟨q4, q8, qb⟩ := HT2.out
    have KB4 := hid (block_on q4 HB1.out)
    have KB8 := hid (block_on q8 HB1.out)
    have HBW := hid (below_on qb HB1.out)
    have HSZ : Hid (w.heap.size + 1 < w1.heap.size) := lt_of_block KB8.out
    clear q4 q8 qb
    have hneB : w.heap.size + 1 ≠ w.heap.size := by omega
    have HD0 := hid (BAt.drop (k := 1) HN.out hkn HV.out)
    have hS0 : V11 (w.heap.size + 1) ⟨2, 0, st, 0, 0, 0, 0, 0, 0, 0, 0, hsm⟩ w1 := v11_of KB8.out
    have HA1 : Hid (Below w1.heap.size w1 (w1.drew.alloc (.cells #[] 5))) := low1' w1 _
    have HKB : Hid (∀ x, Below w1.heap.size w1 x → V11 (w.heap.size + 1) ⟨2, 0, st, 0, 0, 0, 0, 0, 0, 0, 0, hsm⟩ x) := fun x h => v11_of (block_on KB8.out h)
    have HKZ : Hid (∀ x, Below w1.heap.size w1 x → x.heap[w.heap.size]? = some (.cells zc 44)) := fun x h => block_on KB4.out h
    have HLR : Hid ((xs.drop 1).length ≤ 140737488355328) := by have := HL.out; have := HN.out; show _ ≤ _; rw [List.length_drop]; omega
    have M1 : Hid True := trivial
    go_region_held3 (V11 (w.heap.size + 1) ⟨2, 0, st, 0, 0, 0, 0, 0, 0, 0, 0, hsm⟩) (((repeat (first | (with_reducible refine v11D ?_) | (with_reducible refine v11A ?_ _) | (with_reducible refine v11S ?_ hneB))); (with_reducible assumption)))
      (first
      | (have FIRST := M1; refine step_appF rfl (.tmp 81) (.tmp 84) rfl (by simp [Act.eval]; try rfl) (by simp [Act.eval]; try rfl) (OwnB.made w1.heap.size w1.drew (Nat.le_refl _)) (HD0.out.on (below_on HBW.out HA1.out)) (by have := HLR.out; simp only [List.length_nil, Nat.zero_add]; exact this) HA1.out.size ?_; intro v5 w5 hown5 hf5; rw [List.nil_append] at hown5; have HO5 := hid hown5; have S5 := hid (HA1.out.trans hf5.low); have hS5 := HKB.out w5 S5.out; have kz5 := block_cell (HKZ.out w5 S5.out); have fz5 := block_frozen (HKZ.out w5 S5.out); obtain ⟨p5, c5, e5⟩ := hown5.form; generalize (xs.drop 1).length = n5 at e5; subst e5; clear hown5 hf5 FIRST M1 hS0))
    go_wp2_with fail
    all_goals
      have hfin := fin11 (x := ⟨2, 0, st, 0, 0, 0, 0, 0, 0, 0, 0, hsm⟩) (HKZ.out w5 S5.out) HO5.out (by have := HSZ.out; omega) (below_on HBW.out S5.out)
      unfold put11 at hfin
      clear kz5 fz5 hS5
      generalize World.setCell _ _ _ = WF at *
      obtain ⟨f1, f2, f3⟩ := hfin
      have kf := block_cell f1
      rw [HRS.out] at f2
      exact bodyPost_ret (v := .tuple #[(⟨2, 0, st, 0, 0, 0, 0, 0, 0, 0, 0, hsm⟩ : Vl).val, .slice p5 n5 c5, .int .i64 0]) (by simp [results, Try.results24, go_sem, kf]) rfl ⟨_, rfl, f2, f3⟩
  · rw [if_neg h1, ea] at hcv
    go_enter Try.func24, Try.ntmps24
    go_wp2_with (first
      | (go_at_call 50; refine (rvalid_b HVAL.out).mono ?_; rintro e w1 ⟨rfl, hb1⟩; have HB1 := hid hb1; clear hb1))
    obtain ⟨q4, q8, qb⟩ := HT2.out
    have KB4 := hid (block_on q4 HB1.out)
    have KB8 := hid (block_on q8 HB1.out)
    have HBW := hid (below_on qb HB1.out)
    have HSZ : Hid (w.heap.size + 1 < w1.heap.size) := lt_of_block KB8.out
    clear q4 q8 qb
    have hneB : w.heap.size + 1 ≠ w.heap.size := by omega
    have HD0 := hid (BAt.drop (k := sz) HN.out hkn HV.out)
    have hS0 : V11 (w.heap.size + 1) ⟨2, 0, st, 0, 0, 0, 0, 0, 0, 0, 0, hsm⟩ w1 := v11_of KB8.out
    have HA1 : Hid (Below w1.heap.size w1 (w1.drew.alloc (.cells #[] 5))) := low1' w1 _
    have HKB : Hid (∀ x, Below w1.heap.size w1 x → V11 (w.heap.size + 1) ⟨2, 0, st, 0, 0, 0, 0, 0, 0, 0, 0, hsm⟩ x) := fun x h => v11_of (block_on KB8.out h)
    have HKZ : Hid (∀ x, Below w1.heap.size w1 x → x.heap[w.heap.size]? = some (.cells zc 44)) := fun x h => block_on KB4.out h
    have HLR : Hid ((xs.drop sz).length ≤ 140737488355328) := by have := HL.out; have := HN.out; show _ ≤ _; rw [List.length_drop]; omega
    have M1 : Hid True := trivial
    go_region_held3 (V11 (w.heap.size + 1) ⟨2, 0, st, 0, 0, 0, 0, 0, 0, 0, 0, hsm⟩) (((repeat (first | (with_reducible refine v11D ?_) | (with_reducible refine v11A ?_ _) | (with_reducible refine v11S ?_ hneB))); (with_reducible assumption)))
      (first
      | (have FIRST := M1; refine step_appF rfl (.tmp 81) (.tmp 84) rfl (by simp [Act.eval]; try rfl) (by simp [Act.eval]; try rfl) (OwnB.made w1.heap.size w1.drew (Nat.le_refl _)) (HD0.out.on (below_on HBW.out HA1.out)) (by have := HLR.out; simp only [List.length_nil, Nat.zero_add]; exact this) HA1.out.size ?_; intro v5 w5 hown5 hf5; rw [List.nil_append] at hown5; have HO5 := hid hown5; have S5 := hid (HA1.out.trans hf5.low); have hS5 := HKB.out w5 S5.out; have kz5 := block_cell (HKZ.out w5 S5.out); have fz5 := block_frozen (HKZ.out w5 S5.out); obtain ⟨p5, c5, e5⟩ := hown5.form; generalize (xs.drop sz).length = n5 at e5; subst e5; clear hown5 hf5 FIRST M1 hS0))
    go_wp2_with fail
    all_goals
      have hfin := fin11 (x := ⟨2, 0, st, 0, 0, 0, 0, 0, 0, 0, 0, hsm⟩) (HKZ.out w5 S5.out) HO5.out (by have := HSZ.out; omega) (below_on HBW.out S5.out)
      unfold put11 at hfin
      clear kz5 fz5 hS5
      generalize World.setCell _ _ _ = WF at *
      obtain ⟨f1, f2, f3⟩ := hfin
      have kf := block_cell f1
      rw [HRS.out] at f2
      exact bodyPost_ret (v := .tuple #[(⟨2, 0, st, 0, 0, 0, 0, 0, 0, 0, 0, hsm⟩ : Vl).val, .slice p5 n5 c5, .int .i64 0]) (by simp [results, Try.results24, go_sem, kf]) rfl ⟨_, rfl, f2, f3⟩
end Go.Proofs.Ytjfholofgohcjaa
namespace Go.Proofs.Ytjfholofgohcjaa
open Go.RowKit Go.Sort Go.Shelf

set_option maxRecDepth 100000 in
set_option maxHeartbeats 4000000 in
theorem rtake_4 {v : Value} {xs : List UInt8} {w : World} (hv : BAt w v xs) (h8 : 64 ≤ xs.length) (hl : xs.length ≤ 140737488355328) :
    Calls Try.prog 24 #[v, .int .i64 4] w fun e w' => ∃ v', e = .returned (.tuple #[(vHist xs).val, v', .int .i64 0]) ∧ OwnB w.heap.size w' v' (xs.drop 64) ∧ Below w.heap.size w w' := by
  have HV := hid hv
  have HL := hid hl
  obtain ⟨p, cap, rfl, hcap, hnone, hmax, hx⟩ := hv
  obtain ⟨a, rfl, -⟩ := hx (by intro e; rw [e] at h8; simp at h8)
  unfold maxLen at hmax
  show Calls Try.prog 24 #[_, .int .i64 4] w fun e w' => ∃ v', e = .returned (.tuple #[V 4 0 ⟨#[]⟩ (bkt xs 0) (bkt xs 1) (bkt xs 2) (bkt xs 3) (bkt xs 4) (bkt xs 5) (bkt xs 6) (bkt xs 7), v', .int .i64 0]) ∧ OwnB w.heap.size w' v' (xs.drop 64) ∧ Below w.heap.size w w'
  generalize hn : xs.length = n at *
  have HN := hid hn
  have g : ¬ (n : Int) < 64 := by omega
  have hkn : 64 ≤ n := by omega
  have c64 : 64 ≤ cap := by omega
  clear hn hl hx
  have HS0 : Hid (∀ W, Below w.heap.size w W → Calls Try.prog 67 #[.slice (some a) 8 cap] W fun e w' => e = .returned (.int .i64 (bkt xs 0)) ∧ w' = W) := fun W hW => rsmall_any ((BAt.take (k := 8) HN.out (by omega) HV.out).on hW)
  have HSk : Hid (∀ k, 1 ≤ k → k ≤ 7 → ∀ W, Below w.heap.size w W → Calls Try.prog 67 #[.slice (some ⟨a.block, a.off + 8 * k, none⟩) 8 (cap - 8 * k)] W fun e w' => e = .returned (.int .i64 (bkt xs k)) ∧ w' = W) := fun k h1 h2 W hW => by
    have hd := BAt.drop (k := 8 * k) HN.out (by omega) HV.out
    rw [if_neg (by omega)] at hd
    have ea : a.add (8 * k) = ⟨a.block, a.off + 8 * k, none⟩ := by unfold Addr.add; rw [if_neg (by omega)]
    have hd2 := BAt.take (k := 8) (by rw [List.length_drop, HN.out]) (by omega) hd
    simp only [Option.map_some, ea] at hd2
    exact rsmall_any (hd2.on hW)
  have HS1 := hid (HSk.out 1 (by omega) (by omega))
  have HS2 := hid (HSk.out 2 (by omega) (by omega))
  have HS3 := hid (HSk.out 3 (by omega) (by omega))
  have HS4 := hid (HSk.out 4 (by omega) (by omega))
  have HS5 := hid (HSk.out 5 (by omega) (by omega))
  have HS6 := hid (HSk.out 6 (by omega) (by omega))
  have HS7 := hid (HSk.out 7 (by omega) (by omega))
  clear HSk
  generalize bkt xs 0 = b0 at *
  generalize bkt xs 1 = b1 at *
  generalize bkt xs 2 = b2 at *
  generalize bkt xs 3 = b3 at *
  generalize bkt xs 4 = b4 at *
  generalize bkt xs 5 = b5 at *
  generalize bkt xs 6 = b6 at *
  generalize bkt xs 7 = b7 at *
  have HVAL : Hid (validB 4 0 ⟨#[]⟩ b0 b1 b2 b3 b4 b5 b6 b7 = true) := by show _ = true; simp [validB, noText]
  have HT2 := hid (two_blocks w (.cells zc 44) (.cells #[.int .i64 4, .int .i64 0, .string ⟨#[]⟩, .int .i64 b0, .int .i64 b1, .int .i64 b2, .int .i64 b3, .int .i64 b4, .int .i64 b5, .int .i64 b6, .int .i64 b7] 44))
  go_enter Try.func24, Try.ntmps24
  go_wp2_with fail
  refine wp_loop_rounds 9 ?_
  rw [rounds_succ]
  go_wp2_with (go_at_call 67; refine (HS0.out _ (two_blocks w _ _).2.2).mono ?_; rintro e w' ⟨rfl, rfl⟩)
  rw [rounds_succ]
  go_wp2_with (go_at_call 67; refine (HS1.out _ (two_blocks w _ _).2.2).mono ?_; rintro e w' ⟨rfl, rfl⟩)
  rw [rounds_succ]
  go_wp2_with (go_at_call 67; refine (HS2.out _ (two_blocks w _ _).2.2).mono ?_; rintro e w' ⟨rfl, rfl⟩)
  rw [rounds_succ]
  go_wp2_with (go_at_call 67; refine (HS3.out _ (two_blocks w _ _).2.2).mono ?_; rintro e w' ⟨rfl, rfl⟩)
  rw [rounds_succ]
  go_wp2_with (go_at_call 67; refine (HS4.out _ (two_blocks w _ _).2.2).mono ?_; rintro e w' ⟨rfl, rfl⟩)
  rw [rounds_succ]
  go_wp2_with (go_at_call 67; refine (HS5.out _ (two_blocks w _ _).2.2).mono ?_; rintro e w' ⟨rfl, rfl⟩)
  rw [rounds_succ]
  go_wp2_with (go_at_call 67; refine (HS6.out _ (two_blocks w _ _).2.2).mono ?_; rintro e w' ⟨rfl, rfl⟩)
  rw [rounds_succ]
  go_wp2_with (go_at_call 67; refine (HS7.out _ (two_blocks w _ _).2.2).mono ?_; rintro e w' ⟨rfl, rfl⟩)
  rw [rounds_succ]
  go_wp2_with (first
    | (go_at_call 50; refine (rvalid_b HVAL.out).mono ?_; rintro e w1 ⟨rfl, hb1⟩; have HB1 := hid hb1; clear hb1))
  obtain ⟨q4, q8, qb⟩ := HT2.out
  have KB4 := hid (block_on q4 HB1.out)
  have KB8 := hid (block_on q8 HB1.out)
  have HBW := hid (below_on qb HB1.out)
  have HSZ : Hid (w.heap.size + 1 < w1.heap.size) := lt_of_block KB8.out
  clear q4 q8 qb
  have hneB : w.heap.size + 1 ≠ w.heap.size := by omega
  have HD0 := hid (BAt.drop (k := 64) HN.out hkn HV.out)
  have hS0 : V11 (w.heap.size + 1) ⟨4, 0, ⟨#[]⟩, b0, b1, b2, b3, b4, b5, b6, b7, small0⟩ w1 := v11_of KB8.out
  have HA1 : Hid (Below w1.heap.size w1 (w1.drew.alloc (.cells #[] 5))) := low1' w1 _
  have HKB : Hid (∀ x, Below w1.heap.size w1 x → V11 (w.heap.size + 1) ⟨4, 0, ⟨#[]⟩, b0, b1, b2, b3, b4, b5, b6, b7, small0⟩ x) := fun x h => v11_of (block_on KB8.out h)
  have HKZ : Hid (∀ x, Below w1.heap.size w1 x → x.heap[w.heap.size]? = some (.cells zc 44)) := fun x h => block_on KB4.out h
  have HLR : Hid ((xs.drop 64).length ≤ 140737488355328) := by have := HL.out; have := HN.out; show _ ≤ _; rw [List.length_drop]; omega
  have M1 : Hid True := trivial
  go_region_held3 (V11 (w.heap.size + 1) ⟨4, 0, ⟨#[]⟩, b0, b1, b2, b3, b4, b5, b6, b7, small0⟩) (((repeat (first | (with_reducible refine v11D ?_) | (with_reducible refine v11A ?_ _) | (with_reducible refine v11S ?_ hneB))); (with_reducible assumption)))
    (first
    | (have FIRST := M1; refine step_appF rfl (.tmp 81) (.tmp 84) rfl (by simp [Act.eval]; try rfl) (by simp [Act.eval]; try rfl) (OwnB.made w1.heap.size w1.drew (Nat.le_refl _)) (HD0.out.on (below_on HBW.out HA1.out)) (by have := HLR.out; simp only [List.length_nil, Nat.zero_add]; exact this) HA1.out.size ?_; intro v5 w5 hown5 hf5; rw [List.nil_append] at hown5; have HO5 := hid hown5; have S5 := hid (HA1.out.trans hf5.low); have hS5 := HKB.out w5 S5.out; have kz5 := block_cell (HKZ.out w5 S5.out); have fz5 := block_frozen (HKZ.out w5 S5.out); obtain ⟨p5, c5, e5⟩ := hown5.form; generalize (xs.drop 64).length = n5 at e5; subst e5; clear hown5 hf5 FIRST M1 hS0))
  go_wp2_with fail
  all_goals
    have hfin := fin11 (x := ⟨4, 0, ⟨#[]⟩, b0, b1, b2, b3, b4, b5, b6, b7, small0⟩) (HKZ.out w5 S5.out) HO5.out (by have := HSZ.out; omega) (below_on HBW.out S5.out)
    unfold put11 at hfin
    clear kz5 fz5 hS5
    generalize World.setCell _ _ _ = WF at *
    obtain ⟨f1, f2, f3⟩ := hfin
    have kf := block_cell f1
    exact bodyPost_ret (v := .tuple #[(⟨4, 0, ⟨#[]⟩, b0, b1, b2, b3, b4, b5, b6, b7, small0⟩ : Vl).val, .slice p5 n5 c5, .int .i64 0]) (by simp [results, Try.results24, go_sem, kf]) rfl ⟨_, rfl, f2, f3⟩
end Go.Proofs.Ytjfholofgohcjaa
namespace Go.Proofs.Ytjfholofgohcjaa
open Go.RowKit Go.Sort Go.Shelf

set_option maxRecDepth 100000 in
set_option maxHeartbeats 2000000 in
theorem rtake_3bad {v : Value} {c : UInt8} {r : List UInt8} {w : World} (hv : BAt w v (c :: r)) (hc1 : 1 < c.toNat) :
    Calls Try.prog 24 #[v, .int .i64 3] w fun e w' => e = .returned (.tuple #[zV, .slice none 0 0, .int .i64 40]) ∧ Below w.heap.size w w' := by
  have HV := hid hv
  obtain ⟨p, cap, rfl, hcap, hnone, hmax, hx⟩ := hv
  obtain ⟨a, rfl, hj⟩ := hx (by simp)
  have hc0 := hj 0 c rfl
  rw [add_none] at hc0
  unfold maxLen at hmax
  generalize hxs : c :: r = xs at *
  have hpos : 1 ≤ xs.length := by rw [← hxs]; simp
  generalize hn : xs.length = n at *
  have HN := hid hn
  have g : ¬ (n : Int) < 1 := by omega
  have hkn : 1 ≤ n := by omega
  have hcb := c.toNat_lt
  have HVAL : Hid (validB 3 (c.toNat : Int) ⟨#[]⟩ 0 0 0 0 0 0 0 0 = false) := by
    show _ = false
    unfold validB
    simp
    intro h
    omega
  have hwr : IntKind.i64.wrap (c.toNat : Int) = (c.toNat : Int) := by rw [wrap_i64]; unfold wrap64; omega
  clear hn hxs hx hj hpos hc1
  have hc2 := Lib.cell?_alloc_some (.cells (kc 3) 44) (Lib.cell?_alloc_some (.cells zc 44) hc0)
  have HT2 := hid (two_blocks w (.cells zc 44) (.cells #[.int .i64 3, .int .i64 (c.toNat : Int), .string ⟨#[]⟩, .int .i64 0, .int .i64 0, .int .i64 0, .int .i64 0, .int .i64 0, .int .i64 0, .int .i64 0, .int .i64 0] 44))
  generalize hci : (c.toNat : Int) = ci at *
  go_enter Try.func24, Try.ntmps24
  go_wp2_with (first
    | (go_at_call 50; refine (rvalid_b HVAL.out).mono ?_; rintro e w1 ⟨rfl, hb1⟩; have HB1 := hid hb1; have kz := block_cell (block_on HT2.out.1 hb1); have fz := block_frozen (block_on HT2.out.1 hb1); clear hb1))
  have hz := put11_over 0 0 ⟨#[]⟩ 0 0 0 0 0 0 0 0 (block_on HT2.out.1 HB1.out)
  have hb := (below_on HT2.out.2.2 HB1.out).trans ((put11_rd w1 w.heap.size 0 0 ⟨#[]⟩ 0 0 0 0 0 0 0 0).below (Nat.le_refl _) (below_on HT2.out.2.2 HB1.out).size)
  unfold put11 at hz hb
  clear kz fz
  generalize World.setCell _ _ _ = WF at *
  have kf := block_cell hz
  exact bodyPost_ret (v := .tuple #[zV, .slice none 0 0, .int .i64 40]) (by simp [results, Try.results24, go_sem, kf]) rfl ⟨rfl, hb⟩
set_option maxRecDepth 100000 in
set_option maxHeartbeats 2000000 in
theorem rtake_2bad {v : Value} {c : UInt8} {r : List UInt8} {w : World} (hv : BAt w v (c :: r)) (hc1 : c.toNat ≤ r.length) (hc2 : 64 < c.toNat) :
    Calls Try.prog 24 #[v, .int .i64 2] w fun e w' => e = .returned (.tuple #[zV, .slice none 0 0, .int .i64 40]) ∧ Below w.heap.size w w' := by
  have HV := hid hv
  obtain ⟨p, cap, rfl, hcap, hnone, hmax, hx⟩ := hv
  obtain ⟨a, rfl, hj⟩ := hx (by simp)
  have hc0 := hj 0 c rfl
  rw [add_none] at hc0
  unfold maxLen at hmax
  have HB0 : Hid (BAt w (.slice (if cap = 1 then some a else some (a.add 1)) c.toNat (cap - 1)) (r.take c.toNat)) := by
    have h1 := BAt.drop (k := 1) (n := (c :: r).length) rfl (by simp) HV.out
    exact BAt.take (by simp) (by simp; exact hc1) h1
  have hcb := c.toNat_lt
  have HRS : Hid ((c :: r).drop (1 + c.toNat) = r.drop c.toNat) := by show _ = _; rw [Nat.add_comm]; rfl
  have hlen : (c :: r).length = r.length + 1 := rfl
  generalize hxs : c :: r = xs at *
  generalize hn : xs.length = n at *
  have HN := hid hn
  generalize hcn : c.toNat = m at *
  obtain ⟨sz, hsz⟩ : ∃ sz, sz = 1 + m := ⟨_, rfl⟩
  have hs1 : (1 : Int) + (m : Int) = (sz : Int) := by omega
  have hkn : sz ≤ n := by omega
  have hz1 : 1 ≤ sz := by omega
  have g0 : (0 : Int) < (n : Int) := by omega
  have g : ¬ (n : Int) < (sz : Int) := by omega
  rw [← hsz] at HRS
  have HVAL : Hid (validB 2 0 ⟨(r.take m).toArray⟩ 0 0 0 0 0 0 0 0 = false) := by
    show _ = false
    have h : ¬ (⟨(r.take m).toArray⟩ : ByteArray).size ≤ 64 := by show ¬ (r.take m).toArray.size ≤ 64; simp; omega
    unfold validB
    simp [h]
  generalize hst : (⟨(r.take m).toArray⟩ : ByteArray) = st at *
  have HSTR := hid hst
  generalize hrd : r.drop m = rd at *
  clear hn hxs hx hj hst hrd hlen
  have hc2' := Lib.cell?_alloc_some (.cells zc 44) hc0
  have HTB := hid (two_blocks w (.cells zc 44) (.cells (kc 2) 44)).2.2
  have hcv := conv_bat (HB0.out.on HTB.out)
  rw [HSTR.out] at hcv
  have hm1 : m = sz - 1 := by omega
  rw [hm1] at hcv
  have HT2 := hid (two_blocks w (.cells zc 44) (.cells #[.int .i64 2, .int .i64 0, .string st, .int .i64 0, .int .i64 0, .int .i64 0, .int .i64 0, .int .i64 0, .int .i64 0, .int .i64 0, .int .i64 0] 44))
  have ea : a.add 1 = ⟨a.block, a.off + 1, none⟩ := by simp [Addr.add]
  have HSZ1 := hid hsz
  have HM1 := hid hm1
  clear hsz hm1
  rcases Decidable.em (cap = 1) with h1 | h1
  · omega
  · rw [if_neg h1, ea] at hcv
    go_enter Try.func24, Try.ntmps24
    go_wp2_with (first
      | (go_at_call 50; refine (rvalid_b HVAL.out).mono ?_; rintro e w1 ⟨rfl, hb1⟩; have HB1 := hid hb1; have kz := block_cell (block_on HT2.out.1 hb1); have fz := block_frozen (block_on HT2.out.1 hb1); clear hb1))
    have hz := put11_over 0 0 ⟨#[]⟩ 0 0 0 0 0 0 0 0 (block_on HT2.out.1 HB1.out)
    have hb := (below_on HT2.out.2.2 HB1.out).trans ((put11_rd w1 w.heap.size 0 0 ⟨#[]⟩ 0 0 0 0 0 0 0 0).below (Nat.le_refl _) (below_on HT2.out.2.2 HB1.out).size)
    unfold put11 at hz hb
    clear kz fz
    generalize World.setCell _ _ _ = WF at *
    have kf := block_cell hz
    exact bodyPost_ret (v := .tuple #[zV, .slice none 0 0, .int .i64 40]) (by simp [results, Try.results24, go_sem, kf]) rfl ⟨rfl, hb⟩
theorem rtake_some {v : Value} {xs r : List UInt8} {k : Int} {x : Vl} {w : World} (hv : BAt w v xs) (ht : takeV k xs = some (x, r)) (hl : xs.length ≤ 140737488355328) :
    Calls Try.prog 24 #[v, .int .i64 k] w fun e w' => ∃ v', e = .returned (.tuple #[x.val, v', .int .i64 0]) ∧ OwnB w.heap.size w' v' r ∧ Below w.heap.size w w' := by
  unfold takeV at ht
  split at ht
  · rename_i hk; subst hk
    split at ht
    · rename_i hn; cases ht; exact rtake_1 hv hn hl
    · cases ht
  · split at ht
    · rename_i hk; subst hk
      split at ht
      · cases ht
      · split at ht
        · rename_i hn; cases ht; exact rtake_2 hv hn.1 hn.2 hl
        · cases ht
    · split at ht
      · rename_i hk; subst hk
        split at ht
        · cases ht
        · split at ht
          · rename_i hn; cases ht; exact rtake_3 hv hn hl
          · cases ht
      · split at ht
        · rename_i hk; subst hk
          split at ht
          · rename_i hn; cases ht; exact rtake_4 hv hn hl
          · cases ht
        · cases ht
theorem rtake_none {v : Value} {xs : List UInt8} {k : Int} {w : World} (hv : BAt w v xs) (hk : 1 ≤ k ∧ k ≤ 4) (ht : takeV k xs = none) :
    Calls Try.prog 24 #[v, .int .i64 k] w fun e w' => e = .returned (.tuple #[zV, .slice none 0 0, .int .i64 40]) ∧ Below w.heap.size w w' := by
  unfold takeV at ht
  split at ht
  · rename_i hk; subst hk
    split at ht
    · cases ht
    · exact rtake_few hv (.inl ⟨rfl, rfl⟩) (by omega)
  · split at ht
    · rename_i hk; subst hk
      split at ht
      · exact rtake_2few hv (.inl rfl)
      · split at ht
        · cases ht
        · rename_i c r hn
          by_cases h1 : c.toNat ≤ r.length
          · exact rtake_2bad hv h1 (by omega)
          · exact rtake_2few hv (.inr ⟨c, r, rfl, by omega⟩)
    · split at ht
      · rename_i hk; subst hk
        split at ht
        · exact rtake_few hv (.inr (.inl ⟨rfl, rfl⟩)) (by simp)
        · split at ht
          · cases ht
          · exact rtake_3bad hv (by omega)
      · split at ht
        · rename_i hk; subst hk
          split at ht
          · cases ht
          · exact rtake_few hv (.inr (.inr ⟨rfl, rfl⟩)) (by omega)
        · omega
end Go.Proofs.Ytjfholofgohcjaa
