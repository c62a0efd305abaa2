/-
  The walks of catchmentlaw09.TrigramMarks and TrigramSets.
-/
import Derived.Test.YtbnfgamgpliphaaQShown
import Derived.Lib.QuietBelow
namespace Go.Proofs.Ytbnfgamgpliphaa
open Go.RowKit Go.Sort

theorem eql_same (F : F256) (w : World) : (Op.equalIn 10000 25 (B4 F) (B4 F)).run Try.prog w = .ok true w := (eql25 F F w).trans (by rw [eqF_self])
theorem whole_is {s : ByteArray} {F : F256} (hs : s.size ≤ 562949953421312) (hF : ofS (wholeL (xsOf s)) = F) (w : World) : Calls Try.prog 11 #[.string s] w fun e w' => e = .returned (B4 F) ∧ Below w.heap.size w w' := by
  rw [← hF]; exact whole_any s hs w
theorem rwhole_is {s : ByteArray} {F : F256} (hs : s.size ≤ 562949953421312) (hF : ofS (wholeL (xsOf s)) = F) (w : World) : Calls Try.prog 12 #[.string s] w fun e w' => e = .returned (B4 F) ∧ Below w.heap.size w w' := by
  rw [← hF]; exact rwhole_any s hs w
set_option maxRecDepth 100000 in
set_option maxHeartbeats 1000000 in
theorem marks_any (s : ByteArray) (hs : s.size ≤ 281474976710656) (w : World) : Calls Try.prog 3 #[.string s] w fun e w' => e = .returned (.bool true) ∧ Below w.heap.size w w' := by
  have HS := hid hs
  clear hs
  obtain ⟨F, hF⟩ : ∃ F, ofS (xsOf s) = F := ⟨_, rfl⟩
  obtain ⟨G, hG⟩ : ∃ G, ofS (wholeL (xsOf s)) = G := ⟨_, rfl⟩
  have HF := hid hF
  have HG := hid hG
  clear hF hG
  have e1 := eql_same F
  have e2 := eql_same G
  go_enter Try.func3, Try.ntmps3
  go_wp2_with (first
    | (go_at_call 8; refine (shown_any _).mono ?_; rintro e w1 ⟨rfl, hb⟩; have HB := hid hb; clear hb)
    | (go_at_call 9; refine (of_is (by have := HS.out; omega) HF.out _).mono ?_; rintro e w1 ⟨rfl, hb⟩; replace HB := hid (below_on HB.out hb); clear hb)
    | (go_at_call 10; refine (rof_is (by have := HS.out; omega) HF.out _).mono ?_; rintro e w1 ⟨rfl, hb⟩; replace HB := hid (below_on HB.out hb); clear hb)
    | (go_at_call 11; refine (whole_is (by have := HS.out; omega) HG.out _).mono ?_; rintro e w1 ⟨rfl, hb⟩; replace HB := hid (below_on HB.out hb); clear hb)
    | (go_at_call 12; refine (rwhole_is (by have := HS.out; omega) HG.out _).mono ?_; rintro e w1 ⟨rfl, hb⟩; replace HB := hid (below_on HB.out hb); clear hb))
  go_ret
  exact ⟨rfl, HB.out⟩
theorem join_is {F G J : F256} (h : F ||| G = J) (w : World) : Calls Try.prog 13 #[B4 F, B4 G] w fun e w' => e = .returned (B4 J) ∧ Below w.heap.size w w' := by rw [← h]; exact join_any F G w
theorem rjoin_is {F G J : F256} (h : F ||| G = J) (w : World) : Calls Try.prog 14 #[B4 F, B4 G] w fun e w' => e = .returned (B4 J) ∧ Below w.heap.size w w' := by rw [← h]; exact rjoin_any F G w
theorem rwithin_is {F G : F256} {b : Bool} (h : wit F G = b) (w : World) : Calls Try.prog 16 #[B4 F, B4 G] w fun e w' => e = .returned (.bool b) ∧ Below w.heap.size w w' := by rw [← h]; exact rwithin_any F G w
theorem rcount_is {F : F256} {n : Nat} (h : cnt F = n) (w : World) : Calls Try.prog 18 #[B4 F] w fun e w' => e = .returned (.int .i64 (n : Int)) ∧ Below w.heap.size w w' := by rw [← h]; exact rcount_any F w
theorem quiet_cells {W : World} {b : Nat} {F : F256} (h : Fb W b F) : ∀ d os o, (grow (redrawn W d) os).cell? ⟨b, o, none⟩ = #[Value.int .u64 (u (fw F 0)), .int .u64 (u (fw F 1)), .int .u64 (u (fw F 2)), .int .u64 (u (fw F 3))][o]? := fun d os => (h.on (below_regrown W d os)).cells
set_option maxRecDepth 100000 in
set_option maxHeartbeats 1000000 in
theorem sets_any (F G : F256) (w : World) : Calls Try.prog 4 #[B4 F, B4 G] w fun e w' => e = .returned (.bool true) ∧ Below w.heap.size w w' := by
  have HS := hid (boxes2 w F G)
  obtain ⟨J, hJ⟩ : ∃ J, F ||| G = J := ⟨_, rfl⟩
  have hJ2 : G ||| F = J := by rw [BitVec.or_comm]; exact hJ
  have h1 : wit F J = true := by rw [← hJ]; exact wit_left F G
  have h2 : wit G J = true := by rw [← hJ]; exact wit_right F G
  have HJ := hid hJ
  have HJ2 := hid hJ2
  have H1 := hid h1
  have H2 := hid h2
  clear hJ hJ2 h1 h2
  obtain ⟨b, hb⟩ : ∃ b, wit F G = b := ⟨_, rfl⟩
  obtain ⟨n, hn⟩ : ∃ n, cnt F = n := ⟨_, rfl⟩
  have Hb := hid hb
  have Hn := hid hn
  clear hb hn
  have e1 := eql_same J
  go_enter Try.func4, Try.ntmps4
  go_wp2_with fail
  generalize (w.alloc _).alloc _ = W at *
  have K0 := hid HS.out.1
  have K1 := hid HS.out.2.1
  have HB := hid HS.out.2.2
  clear HS
  refine (shown_any _).mono ?_
  rintro e w1 ⟨rfl, hb⟩
  replace K0 := hid (K0.out.on hb)
  replace K1 := hid (K1.out.on hb)
  replace HB := hid (below_on HB.out hb)
  clear hb
  have c0 := K0.out.cells
  have c1 := K1.out.cells
  have l0 := K0.out.lt
  have l1 := K1.out.lt
  go_wp2_with (go_at_call 13; refine (join_is HJ.out _).mono ?_; rintro e w2 ⟨rfl, hb⟩; clear c0 c1 l0 l1; replace K0 := hid ((K0.out.on hb).alloc (.cells (c4 J) 25 (0, 0))); replace K1 := hid ((K1.out.on hb).alloc (.cells (c4 J) 25 (0, 0))); replace HB := hid (below_on (below_on HB.out hb) ((Below.refl _ w2).alloc (Nat.le_refl _) (.cells (c4 J) 25 (0, 0)))); have K2 := hid (Fb.made w2 J); clear hb)
  generalize w2.alloc _ = W2 at *
  generalize w2.heap.size = n2 at *
  have q0 := quiet_cells K0.out
  have q1 := quiet_cells K1.out
  have q2 := quiet_cells K2.out
  refine wp_region_quiet_below (by kernel_rfl) (by kernel_rfl) ?_
  iterate 20 (go_big_quiet_step (first
    | (go_at_call 14; exact Calls.regrown_of (rjoin_is HJ.out _))
    | (go_at_call 15; exact Calls.regrown_of (within_is Hb.out _))
    | (go_at_call 16; exact Calls.regrown_of (rwithin_is Hb.out _))
    | (go_at_call 17; exact Calls.regrown_of (count_is Hn.out _))))
  iterate 10 (go_big_quiet_step (first
    | (go_at_call 15; exact Calls.regrown_of (within_is H1.out _))
    | (go_at_call 18; exact Calls.regrown_of (rcount_is Hn.out _))))
  repeat (go_big_quiet_step (first
    | (go_at_call 15; exact Calls.regrown_of (within_is H2.out _))
    | (go_at_call 13; exact Calls.regrown_of (join_is HJ2.out _))))
  refine wpQuiet_nil ?_
  intro _ hw'
  obtain ⟨⟨dq, osq⟩, hw''⟩ := hw'
  subst hw''
  go_wp2
  go_ret
  exact ⟨rfl, below_on HB.out (below_regrown W2 dq osq)⟩
end Go.Proofs.Ytbnfgamgpliphaa
