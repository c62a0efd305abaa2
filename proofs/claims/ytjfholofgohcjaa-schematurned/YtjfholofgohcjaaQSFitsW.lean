/-
  The walk of catchmentlaw05.SchemaFits.
-/
import Derived.Test.YtjfholofgohcjaaPF
import Derived.Test.YtjfholofgohcjaaPW
namespace Go.Proofs.Ytjfholofgohcjaa
open Go.RowKit Go.Sort Go.Shelf

theorem SchsAt.take {w : World} {p : Option Addr} {n cap : Nat} {l : List Sc} (h : SchsAt w (.slice p n cap) l) (m : Nat) (hm : m ≤ n) : SchsAt w (.slice p m cap) (l.take m) := by
  obtain ⟨hs, h1, h2⟩ := h
  exact ⟨hs.take m, h1.take m hm, h2.take m⟩
theorem rsfits_is {v u : Value} {l : List Sc} {p : Pt} {w : World} {r : Int} (hv : SchsAt w v l) (hp : PtAt w u p) (h : fitsS l p = r) : Calls Try.prog 42 #[v, u] w fun e w' => e = .returned (.int .i64 r) ∧ Below w.heap.size w w' := by rw [← h]; exact rsfits_any hv hp
set_option maxRecDepth 100000 in
set_option maxHeartbeats 2000000 in
theorem schemaFits_any {v u : Value} {l : List Sc} {p : Pt} {w : World} (hv : SchsAt w v l) (hp : PtAt w u p) :
    Calls Try.prog 9 #[v, u] w fun e w' => e = .returned (.bool true) ∧ Below w.heap.size w w' := by
  have HV := hid hv
  obtain ⟨hs, ⟨q, cap, rfl, ⟨hcap, -⟩, hmax, -⟩, -⟩ := hv
  unfold maxLen at hmax
  have HP := hid hp
  obtain ⟨kv, vv, rfl, hk1, hk2⟩ := hp
  obtain ⟨pk, ck, rfl, -⟩ := hk1
  obtain ⟨pv, cv, rfl, -⟩ := hk2
  generalize List.length p.ks = nk at *
  generalize List.length p.vs = nv at *
  generalize hs.length = n at *
  have HB := hid ((Below.refl w.heap.size w).alloc (Nat.le_refl _) (.cells #[.string p.sc, .slice pk nk ck, .int .i64 p.tm, .slice pv nv cv] 67))
  have KB := hid (alloc_block w (.cells #[.string p.sc, .slice pk nk ck, .int .i64 p.tm, .slice pv nv cv] 67))
  by_cases hn : 20 < n
  · have g : (20 : Int) < (n : Int) := by omega
    have HC := hid (HV.out.take 20 (by omega))
    generalize l.take 20 = l' at HC
    generalize hr : fitsS l' p = r
    have HR := hid hr
    clear hr
    go_enter Try.func9, Try.ntmps9
    go_wp2_with (go_at_call 30; refine shown5_any.mono ?_; rintro e w1 ⟨rfl, hb1⟩; have HB1 := hid (below_on HB.out hb1); have KB1 := hid (block_on KB.out hb1); clear hb1)
    have kk : ∀ d os i, (grow (redrawn w1 d) os).cell? ⟨w.heap.size, i, none⟩ = (#[.string p.sc, .slice pk nk ck, .int .i64 p.tm, .slice pv nv cv] : Array Value)[i]? := fun d os i => block_cell (block_on KB1.out (below_regrown w1 d os)) i
    have HU1 : ∀ d os, Hid (SchsAt (grow (redrawn w1 d) os) (.slice q 20 cap) l') := fun d os => (HC.out.on HB1.out).on (below_regrown w1 d os)
    have HU2 : ∀ d os, Hid (PtAt (grow (redrawn w1 d) os) (.agg #[.string p.sc, .slice pk nk ck, .int .i64 p.tm, .slice pv nv cv]) p) := fun d os => (HP.out.on HB1.out).on (below_regrown w1 d os)
    refine wp_region_quiet_below (by kernel_rfl) (by kernel_rfl) ?_
    repeat (go_big_quiet_step (first | (go_at_call 41; exact Calls.regrown_of (sfits_is (HU1 _ _).out (HU2 _ _).out HR.out)) | (go_at_call 42; exact Calls.regrown_of (rsfits_is (HU1 _ _).out (HU2 _ _).out HR.out))))
    refine wpQuiet_nil ?_
    intro _ hw'
    obtain ⟨⟨dq, osq⟩, hw''⟩ := hw'
    subst hw''
    go_wp2
    go_ret
    exact ⟨by simp, below_on HB1.out (below_regrown w1 dq osq)⟩
  · have g : ¬ (20 : Int) < (n : Int) := by omega
    generalize hr : fitsS l p = r
    have HR := hid hr
    clear hr
    go_enter Try.func9, Try.ntmps9
    go_wp2_with (go_at_call 30; refine shown5_any.mono ?_; rintro e w1 ⟨rfl, hb1⟩; have HB1 := hid (below_on HB.out hb1); have KB1 := hid (block_on KB.out hb1); clear hb1)
    have kk : ∀ d os i, (grow (redrawn w1 d) os).cell? ⟨w.heap.size, i, none⟩ = (#[.string p.sc, .slice pk nk ck, .int .i64 p.tm, .slice pv nv cv] : Array Value)[i]? := fun d os i => block_cell (block_on KB1.out (below_regrown w1 d os)) i
    have HU1 : ∀ d os, Hid (SchsAt (grow (redrawn w1 d) os) (.slice q n cap) l) := fun d os => (HV.out.on HB1.out).on (below_regrown w1 d os)
    have HU2 : ∀ d os, Hid (PtAt (grow (redrawn w1 d) os) (.agg #[.string p.sc, .slice pk nk ck, .int .i64 p.tm, .slice pv nv cv]) p) := fun d os => (HP.out.on HB1.out).on (below_regrown w1 d os)
    refine wp_region_quiet_below (by kernel_rfl) (by kernel_rfl) ?_
    repeat (go_big_quiet_step (first | (go_at_call 41; exact Calls.regrown_of (sfits_is (HU1 _ _).out (HU2 _ _).out HR.out)) | (go_at_call 42; exact Calls.regrown_of (rsfits_is (HU1 _ _).out (HU2 _ _).out HR.out))))
    refine wpQuiet_nil ?_
    intro _ hw'
    obtain ⟨⟨dq, osq⟩, hw''⟩ := hw'
    subst hw''
    go_wp2
    go_ret
    exact ⟨by simp, below_on HB1.out (below_regrown w1 dq osq)⟩
end Go.Proofs.Ytjfholofgohcjaa
