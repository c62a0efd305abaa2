/-
  What Whole, the reference's, and the statements' own shown return.
-/
import Derived.Test.YtmkilckoeaekkaaQOf
import Derived.Lib.QuietBelow
namespace Go.Proofs.Ytmkilckoeaekkaa
open Go.RowKit Go.Sort

def wholeL (xs : List UInt8) : List UInt8 := [1] ++ (xs ++ [2])
theorem xsOf_app (s t : ByteArray) : xsOf (s ++ t) = xsOf s ++ xsOf t := by
  unfold xsOf; rw [ByteArray.data_append]; exact Array.toList_append
theorem xsOf_whole (s : ByteArray) : xsOf (⟨#[1]⟩ ++ s ++ ⟨#[2]⟩) = wholeL (xsOf s) := by
  rw [xsOf_app, xsOf_app, List.append_assoc]; rfl
theorem size_whole (s : ByteArray) : ((⟨#[1]⟩ : ByteArray) ++ s ++ ⟨#[2]⟩).size = s.size + 2 := by
  rw [ByteArray.size_append, ByteArray.size_append]
  show 1 + s.size + 1 = _; omega
theorem of_is {s : ByteArray} {F : F256} (hs : s.size ≤ 1125899906842624) (hF : ofS (xsOf s) = F) (w : World) : Calls Try.prog 36 #[.string s] w fun e w' => e = .returned (B4 F) ∧ Below w.heap.size w w' := by
  rw [← hF]; exact of_any s hs w
theorem rof_is {s : ByteArray} {F : F256} (hs : s.size ≤ 1125899906842624) (hF : ofS (xsOf s) = F) (w : World) : Calls Try.prog 30 #[.string s] w fun e w' => e = .returned (B4 F) ∧ Below w.heap.size w w' := by
  rw [← hF]; exact rof_any s hs w
set_option maxRecDepth 100000 in
theorem whole_any (s : ByteArray) (hs : s.size ≤ 562949953421312) (w : World) : Calls Try.prog 31 #[.string s] w fun e w' => e = .returned (B4 (ofS (wholeL (xsOf s)))) ∧ Below w.heap.size w w' := by
  have HS := hid hs
  have hsI : (s.size : Int) ≤ 562949953421312 := by omega
  clear hs
  generalize hF : ofS (wholeL (xsOf s)) = F
  have HF := hid hF
  clear hF
  have HZ := hid (size_whole s)
  have HX := hid (xsOf_whole s)
  have KZ : Hid (Fb (w.alloc (.cells zs 49 (0, 0))) w.heap.size 0) := Fb.zero w
  have HB : Hid (Below w.heap.size w (w.alloc (.cells zs 49 (0, 0)))) := (Below.refl _ _).alloc (Nat.le_refl _) _
  go_enter Try.func31, Try.ntmps31
  go_wp2_with (go_at_call 36; refine (of_is (F := F) (by have := HS.out; have := HZ.out; omega) (by rw [HX.out]; exact HF.out) _).mono ?_; rintro e w' ⟨rfl, hb⟩; replace KZ := hid (KZ.out.on hb); replace HB := hid (below_on HB.out hb); clear hb; have c0 := KZ.out.cells; have f0 := KZ.out.frozen; have l0 := KZ.out.lt)
  refine bodyPost_ret (v := B4 F) (by simp [results, Try.results31, go_sem, c0]) rfl ⟨rfl, ?_⟩
  have hbw := HB.out
  clear c0 f0
  go_grown
set_option maxRecDepth 100000 in
theorem rwhole_any (s : ByteArray) (hs : s.size ≤ 562949953421312) (w : World) : Calls Try.prog 26 #[.string s] w fun e w' => e = .returned (B4 (ofS (wholeL (xsOf s)))) ∧ Below w.heap.size w w' := by
  have HS := hid hs
  have hsI : (s.size : Int) ≤ 562949953421312 := by omega
  clear hs
  generalize hF : ofS (wholeL (xsOf s)) = F
  have HF := hid hF
  clear hF
  have HZ := hid (size_whole s)
  have HX := hid (xsOf_whole s)
  have KZ : Hid (Fb (w.alloc (.cells zs 49 (0, 0))) w.heap.size 0) := Fb.zero w
  have HB : Hid (Below w.heap.size w (w.alloc (.cells zs 49 (0, 0)))) := (Below.refl _ _).alloc (Nat.le_refl _) _
  go_enter Try.func26, Try.ntmps26
  go_wp2_with (go_at_call 30; refine (rof_is (F := F) (by have := HS.out; have := HZ.out; omega) (by rw [HX.out]; exact HF.out) _).mono ?_; rintro e w' ⟨rfl, hb⟩; replace KZ := hid (KZ.out.on hb); replace HB := hid (below_on HB.out hb); clear hb; have c0 := KZ.out.cells; have f0 := KZ.out.frozen; have l0 := KZ.out.lt)
  refine bodyPost_ret (v := B4 F) (by simp [results, Try.results26, go_sem, c0]) rfl ⟨rfl, ?_⟩
  have hbw := HB.out
  clear c0 f0
  go_grown
set_option maxHeartbeats 400000 in
theorem within_any (F G : F256) (w : World) : Calls Try.prog 35 #[B4 F, B4 G] w fun e w' => e = .returned (.bool (wit F G)) ∧ Below w.heap.size w w' := by
  have he := @eql49
  have HW : Hid (eqF (F ||| G) G = wit F G) := rfl
  go_enter Try.func35, Try.ntmps35
  go_wp2_with fail
  go_region_with (first | (go_at_call 33; refine (join_any F G _).mono ?_; rintro e w' ⟨rfl, hb⟩; have hc := fun b o (h : b < _) => hb.cell (p := ⟨b, o, none⟩) h; generalize F ||| G = J at *))
  all_goals
    go_wp2
    go_ret
    exact ⟨ret_bool HW.out, (((Below.refl _ _).alloc (Nat.le_refl _) _).alloc (by go_size) _).drew.trans (hb.mono (by go_size))⟩
theorem within_is {F G : F256} {b : Bool} (h : wit F G = b) (w : World) : Calls Try.prog 35 #[B4 F, B4 G] w fun e w' => e = .returned (.bool b) ∧ Below w.heap.size w w' := by rw [← h]; exact within_any F G w
theorem eqF_self (F : F256) : eqF F F = true := by simp [eqF]
theorem eql_same (F : F256) (w : World) : (Op.equalIn 10000 49 (B4 F) (B4 F)).run Try.prog w = .ok true w := (eql49 F F w).trans (by rw [eqF_self])
theorem whole_is {s : ByteArray} {F : F256} (hs : s.size ≤ 562949953421312) (hF : ofS (wholeL (xsOf s)) = F) (w : World) : Calls Try.prog 31 #[.string s] w fun e w' => e = .returned (B4 F) ∧ Below w.heap.size w w' := by
  rw [← hF]; exact whole_any s hs w
theorem rwhole_is {s : ByteArray} {F : F256} (hs : s.size ≤ 562949953421312) (hF : ofS (wholeL (xsOf s)) = F) (w : World) : Calls Try.prog 26 #[.string s] w fun e w' => e = .returned (B4 F) ∧ Below w.heap.size w w' := by
  rw [← hF]; exact rwhole_any s hs w
theorem join_is {F G J : F256} (h : F ||| G = J) (w : World) : Calls Try.prog 33 #[B4 F, B4 G] w fun e w' => e = .returned (B4 J) ∧ Below w.heap.size w w' := by rw [← h]; exact join_any F G w
theorem rjoin_is {F G J : F256} (h : F ||| G = J) (w : World) : Calls Try.prog 32 #[B4 F, B4 G] w fun e w' => e = .returned (B4 J) ∧ Below w.heap.size w w' := by rw [← h]; exact rjoin_any F G w
theorem rwithin_is {F G : F256} {b : Bool} (h : wit F G = b) (w : World) : Calls Try.prog 29 #[B4 F, B4 G] w fun e w' => e = .returned (.bool b) ∧ Below w.heap.size w w' := by rw [← h]; exact rwithin_any F G w
theorem quiet_cells {W : World} {b : Nat} {F : F256} (h : Fb W b F) : ∀ d os o, (grow (redrawn W d) os).cell? ⟨b, o, none⟩ = #[Value.int .u64 (u (fw F 0)), .int .u64 (u (fw F 1)), .int .u64 (u (fw F 2)), .int .u64 (u (fw F 3))][o]? := fun d os => (h.on (below_regrown W d os)).cells
end Go.Proofs.Ytmkilckoeaekkaa
