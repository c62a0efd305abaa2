/-
  The walk of catchmentlaw04.WireValues.
-/
import Derived.Test.YtjfholofgohcjaaPF
import Derived.Test.YtjfholofgohcjaaPL
import Derived.Test.YtjfholofgohcjaaPZ
namespace Go.Proofs.Ytjfholofgohcjaa
open Go.RowKit Go.Sort Go.Shelf

def zL : Vl := ⟨0, 0, ⟨#[]⟩, 0, 0, 0, 0, 0, 0, 0, 0, small0⟩
/- What Put and Take answer. -/
def putL (x : Vl) (xs : List UInt8) : List UInt8 := if validL x = true then xs ++ valB x else []
def putZ (x : Vl) : Int := if validL x = true then 0 else 10
def tkV (k : Int) (xs : List UInt8) : Vl := if 1 ≤ k ∧ k ≤ 4 then (match takeV k xs with | some (x, _) => x | none => zL) else zL
def tkL (k : Int) (xs : List UInt8) : List UInt8 := if 1 ≤ k ∧ k ≤ 4 then (match takeV k xs with | some (_, r) => r | none => []) else []
def tkZ (k : Int) (xs : List UInt8) : Int := if 1 ≤ k ∧ k ≤ 4 then (match takeV k xs with | some _ => 0 | none => 40) else 10
theorem put_all {v : Value} {xs : List UInt8} {x : Vl} {w : World} (hv : BAt w v xs) (hl : xs.length ≤ 140737488351232) :
    Calls Try.prog 21 #[v, x.val] w fun e w' => ∃ p c, e = .returned (.tuple #[.slice p (putL x xs).length c, .int .i64 (putZ x)]) ∧ BAt w' (.slice p (putL x xs).length c) (putL x xs) ∧ Below w.heap.size w w' := by
  by_cases h : validL x = true
  · rw [show putL x xs = xs ++ valB x from if_pos h, show putZ x = 0 from if_pos h]
    refine (put_ok hv h (by omega) (valid_len h)).mono ?_
    rintro e w' ⟨v', rfl, ho, hb⟩
    obtain ⟨p, c, rfl⟩ := ho.form
    exact ⟨p, c, rfl, ho.bat, hb⟩
  · rw [show putL x xs = [] from if_neg h, show putZ x = 10 from if_neg h]
    refine (put_bad (v := v) (by simpa using h)).mono ?_
    rintro e w' ⟨rfl, hb⟩
    exact ⟨none, 0, rfl, bat_nil _, hb⟩
theorem rput_all {v : Value} {xs : List UInt8} {x : Vl} {w : World} (hv : BAt w v xs) (hl : xs.length ≤ 140737488351232) :
    Calls Try.prog 22 #[v, x.val] w fun e w' => ∃ p c, e = .returned (.tuple #[.slice p (putL x xs).length c, .int .i64 (putZ x)]) ∧ BAt w' (.slice p (putL x xs).length c) (putL x xs) ∧ Below w.heap.size w w' := by
  by_cases h : validL x = true
  · rw [show putL x xs = xs ++ valB x from if_pos h, show putZ x = 0 from if_pos h]
    refine (rput_ok hv h (by omega) (valid_len h)).mono ?_
    rintro e w' ⟨v', rfl, ho, hb⟩
    obtain ⟨p, c, rfl⟩ := ho.form
    exact ⟨p, c, rfl, ho.bat, hb⟩
  · rw [show putL x xs = [] from if_neg h, show putZ x = 10 from if_neg h]
    refine (rput_bad (v := v) (by simpa using h)).mono ?_
    rintro e w' ⟨rfl, hb⟩
    exact ⟨none, 0, rfl, bat_nil _, hb⟩
theorem tk_len {k : Int} {xs r : List UInt8} {x : Vl} (h : takeV k xs = some (x, r)) : r.length ≤ xs.length := by
  unfold takeV at h
  repeat' (split at h)
  all_goals first
    | (cases h; done)
    | (cases h; simp; try omega)
theorem take_all {v : Value} {xs : List UInt8} {k : Int} {w : World} (hv : BAt w v xs) (hl : xs.length ≤ 140737488351232) :
    Calls Try.prog 23 #[v, .int .i64 k] w fun e w' => ∃ p c, e = .returned (.tuple #[(tkV k xs).val, .slice p (tkL k xs).length c, .int .i64 (tkZ k xs)]) ∧ BAt w' (.slice p (tkL k xs).length c) (tkL k xs) ∧ Below w.heap.size w w' := by
  by_cases hk : 1 ≤ k ∧ k ≤ 4
  · cases ht : takeV k xs with
    | none =>
      rw [show tkV k xs = zL by simp [tkV, hk, ht], show tkL k xs = [] by simp [tkL, hk, ht], show tkZ k xs = 40 by simp [tkZ, hk, ht]]
      refine (take_none hv hk ht).mono ?_
      rintro e w' ⟨rfl, hb⟩
      exact ⟨none, 0, rfl, bat_nil _, hb⟩
    | some z =>
      obtain ⟨y, r⟩ := z
      rw [show tkV k xs = y by simp [tkV, hk, ht], show tkL k xs = r by simp [tkL, hk, ht], show tkZ k xs = 0 by simp [tkZ, hk, ht]]
      refine (take_some hv ht (by have := tk_len ht; omega)).mono ?_
      rintro e w' ⟨v', rfl, ho, hb⟩
      obtain ⟨p, c, rfl⟩ := ho.form
      exact ⟨p, c, rfl, ho.bat, hb⟩
  · rw [show tkV k xs = zL from if_neg hk, show tkL k xs = [] from if_neg hk, show tkZ k xs = 10 from if_neg hk]
    refine (take_bad hv hk).mono ?_
    rintro e w' ⟨rfl, hb⟩
    exact ⟨none, 0, rfl, bat_nil _, hb⟩
theorem rtake_all {v : Value} {xs : List UInt8} {k : Int} {w : World} (hv : BAt w v xs) (hl : xs.length ≤ 140737488351232) :
    Calls Try.prog 24 #[v, .int .i64 k] w fun e w' => ∃ p c, e = .returned (.tuple #[(tkV k xs).val, .slice p (tkL k xs).length c, .int .i64 (tkZ k xs)]) ∧ BAt w' (.slice p (tkL k xs).length c) (tkL k xs) ∧ Below w.heap.size w w' := by
  by_cases hk : 1 ≤ k ∧ k ≤ 4
  · cases ht : takeV k xs with
    | none =>
      rw [show tkV k xs = zL by simp [tkV, hk, ht], show tkL k xs = [] by simp [tkL, hk, ht], show tkZ k xs = 40 by simp [tkZ, hk, ht]]
      refine (rtake_none hv hk ht).mono ?_
      rintro e w' ⟨rfl, hb⟩
      exact ⟨none, 0, rfl, bat_nil _, hb⟩
    | some z =>
      obtain ⟨y, r⟩ := z
      rw [show tkV k xs = y by simp [tkV, hk, ht], show tkL k xs = r by simp [tkL, hk, ht], show tkZ k xs = 0 by simp [tkZ, hk, ht]]
      refine (rtake_some hv ht (by omega)).mono ?_
      rintro e w' ⟨v', rfl, ho, hb⟩
      obtain ⟨p, c, rfl⟩ := ho.form
      exact ⟨p, c, rfl, ho.bat, hb⟩
  · rw [show tkV k xs = zL from if_neg hk, show tkL k xs = [] from if_neg hk, show tkZ k xs = 10 from if_neg hk]
    refine (rtake_bad hv hk).mono ?_
    rintro e w' ⟨rfl, hb⟩
    exact ⟨none, 0, rfl, bat_nil _, hb⟩
theorem eqlV_self (x : Vl) (w : World) : Sem.run Try.prog (binOp .eql 44 (.agg (vcl x)) (.agg (vcl x))) w = .ok (.bool true) w := by
  have he := eql24 x.k x.n x.s x.h0 x.h1 x.h2 x.h3 x.h4 x.h5 x.h6 x.h7 x.k x.n x.s x.h0 x.h1 x.h2 x.h3 x.h4 x.h5 x.h6 x.h7 w
  have e1 : eqV x.k x.n x.s x.h0 x.h1 x.h2 x.h3 x.h4 x.h5 x.h6 x.h7 x.k x.n x.s x.h0 x.h1 x.h2 x.h3 x.h4 x.h5 x.h6 x.h7 = true := (eqL_iff x x).2 rfl
  rw [e1] at he
  have he' : Sem.run Try.prog (Op.equalIn Op.maxDepth 44 x.val x.val) w = .ok true w := he
  show Sem.run Try.prog (binOp .eql 44 x.val x.val) w = _
  simp [binOp, Op.equal, he']
theorem blkA {w w' : World} {o : Obj} (hb : Below (w.alloc o).heap.size (w.alloc o) w') : w'.heap[w.heap.size]? = some o := block_on (alloc_block w o) hb
theorem alB (w : World) (o : Obj) : Below w.heap.size w (w.alloc o) := (Below.refl _ w).alloc (Nat.le_refl _) o
def LenIs (xs : List UInt8) (n : Nat) : Prop := xs.length = n ∧ xs.length ≤ 140737488351232
theorem LenIs.form {B : Nat} {w : World} {v : Value} {xs : List UInt8} {n : Nat} (h : LenIs xs n) (ho : OwnB B w v xs) : ∃ p c, v = .slice p n c := by
  obtain ⟨p, c, rfl⟩ := ho.form
  exact ⟨p, c, by rw [h.1]⟩
set_option maxRecDepth 100000 in
set_option maxHeartbeats 2000000 in
theorem wvalues_any {v : Value} {xs : List UInt8} {x : Vl} {k : Int} {w : World} (hX : BAt w v xs) (hl : xs.length ≤ 140737488351232) : Calls Try.prog 5 #[v, x.val, .int .i64 k] w fun e w' => e = .returned (.bool true) ∧ Below w.heap.size w w' := by
  have HX := hid hX
  obtain ⟨p, c, rfl, -⟩ := hX
  have HB := hid ((Below.refl w.heap.size w).alloc (Nat.le_refl _) (.cells (vcl x) 44))
  have KB := hid (alloc_block w (.cells (vcl x) 44))
  obtain ⟨n, hn⟩ : ∃ n, xs.length = n := ⟨_, rfl⟩
  have HN : LenIs xs n := ⟨hn, hl⟩
  rw [hn] at HX ⊢
  clear hn hl
  obtain ⟨pz, hpz⟩ : ∃ z, putZ x = z := ⟨_, rfl⟩
  obtain ⟨tz, htz⟩ : ∃ z, tkZ k xs = z := ⟨_, rfl⟩
  obtain ⟨pl, hpl⟩ : ∃ z, putL x xs = z := ⟨_, rfl⟩
  obtain ⟨tl, htl⟩ : ∃ z, tkL k xs = z := ⟨_, rfl⟩
  obtain ⟨y, hy⟩ : ∃ z, tkV k xs = z := ⟨_, rfl⟩
  have CPut : ∀ {v : Value} {w : World}, BAt w v xs → Calls Try.prog 21 #[v, x.val] w fun e w' => ∃ p c, e = .returned (.tuple #[.slice p pl.length c, .int .i64 pz]) ∧ BAt w' (.slice p pl.length c) pl ∧ Below w.heap.size w w' := fun hv => by rw [← hpl, ← hpz]; exact put_all hv HN.2
  have CRPut : ∀ {v : Value} {w : World}, BAt w v xs → Calls Try.prog 22 #[v, x.val] w fun e w' => ∃ p c, e = .returned (.tuple #[.slice p pl.length c, .int .i64 pz]) ∧ BAt w' (.slice p pl.length c) pl ∧ Below w.heap.size w w' := fun hv => by rw [← hpl, ← hpz]; exact rput_all hv HN.2
  have CTake : ∀ {v : Value} {w : World}, BAt w v xs → Calls Try.prog 23 #[v, .int .i64 k] w fun e w' => ∃ p c, e = .returned (.tuple #[y.val, .slice p tl.length c, .int .i64 tz]) ∧ BAt w' (.slice p tl.length c) tl ∧ Below w.heap.size w w' := fun hv => by rw [← htl, ← htz, ← hy]; exact take_all hv HN.2
  have CRTake : ∀ {v : Value} {w : World}, BAt w v xs → Calls Try.prog 24 #[v, .int .i64 k] w fun e w' => ∃ p c, e = .returned (.tuple #[y.val, .slice p tl.length c, .int .i64 tz]) ∧ BAt w' (.slice p tl.length c) tl ∧ Below w.heap.size w w' := fun hv => by rw [← htl, ← htz, ← hy]; exact rtake_all hv HN.2
  clear hpz htz hpl htl hy
  have hq := eqlV_self y
  go_enter Try.func5, Try.ntmps5
  go_wp2_with (first
    | (go_at_call 20; refine wshown_any.mono ?_; rintro e w1 ⟨rfl, hb1⟩; have HB1 := hid (below_on HB.out hb1); have KB1 := hid (block_on KB.out hb1); have kb1 := block_cell KB1.out; clear hb1)
    | (refine appB_any rfl _ _ rfl (by simp [Act.eval]; try rfl) (OwnB.made w1.heap.size w1 (Nat.le_refl _)) (by simp [Act.eval]; try rfl) (HX.out.on (below_on HB1.out ((Below.refl _ _).alloc (Nat.le_refl _) _))) (by have := HN.2; simp; omega) ((Below.refl w1.heap.size w1).alloc (Nat.le_refl _) (.cells #[] 5)).size ?_; intro v2 w2 hown2 hb2; rw [List.nil_append] at hown2; obtain ⟨p2, c2, rfl⟩ := HN.form hown2; have HO2 := hid hown2.bat; have S2 := hid (((Below.refl w1.heap.size w1).alloc (Nat.le_refl _) (.cells #[] 5)).trans hb2); have HB2 := hid (below_on HB1.out S2.out); have KB2 := hid (block_on KB1.out S2.out); have kb2 := block_cell KB2.out; clear hown2 hb2 kb1)
    | (go_at_call 21; refine (CPut HO2.out).mono ?_; rintro e w3 ⟨p3, c3, rfl, ho3, hb3⟩; have HP3 := hid ho3; have HO3 := hid (HO2.out.on hb3); have HB3 := hid (below_on HB2.out hb3); have KB3 := hid (block_on KB2.out hb3); have kb3 := block_cell KB3.out; clear ho3 hb3 kb2)
    | (go_at_call 22; refine (CRPut (HX.out.on HB3.out)).mono ?_; rintro e w4 ⟨p4, c4, rfl, ho4, hb4⟩; have HR4 := hid ho4; have HP4 := hid (HP3.out.on hb4); have HO4 := hid (HO3.out.on hb4); have HB4 := hid (below_on HB3.out hb4); clear ho4 hb4 kb3)
    | (go_at_call 23; refine (CTake HO4.out).mono ?_; rintro e w5 ⟨p5, c5, rfl, ho5, hb5⟩; have AB5 := alB w5 (.cells (vcl y) 44); have HT5 := hid (ho5.on AB5); have HP5 := hid ((HP4.out.on hb5).on AB5); have HR5 := hid ((HR4.out.on hb5).on AB5); have HO5 := hid ((HO4.out.on hb5).on AB5); have HB5 := hid (below_on (below_on HB4.out hb5) AB5); have KB5 := hid (alloc_block w5 (.cells (vcl y) 44)); clear ho5 hb5 AB5)
    | (go_at_call 24; refine (CRTake (HX.out.on HB5.out)).mono ?_; rintro e w6 ⟨p6, c6, rfl, ho6, hb6⟩; have AB6 := alB w6 (.cells (vcl y) 44); have c1 := conv_bat ((HP5.out.on hb6).on AB6); have c2 := conv_bat ((HR5.out.on hb6).on AB6); have c3 := conv_bat ((HT5.out.on hb6).on AB6); have c4 := conv_bat (ho6.on AB6); have c5 := conv_bat ((HO5.out.on hb6).on AB6); have HB6 := hid (below_on (below_on HB5.out hb6) AB6); have c6 := conv_bat (HX.out.on HB6.out); have kb6 := block_cell (block_on (block_on KB5.out hb6) AB6); generalize (⟨pl.toArray⟩ : ByteArray) = sp at *; generalize (⟨tl.toArray⟩ : ByteArray) = st at *; generalize (⟨xs.toArray⟩ : ByteArray) = sx at *; clear ho6 hb6 AB6))
  go_ret
  exact ⟨by simp, HB6.out⟩
end Go.Proofs.Ytjfholofgohcjaa
