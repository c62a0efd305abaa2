/-
  The document's examples at the head of all statements (catchmentlaw01.shown) come out true. Condition: the table of the powers of ten of Go's strconv is as it is laid.
-/
import Derived.Test.YtjplnelffiegmaaDoorText
import Derived.Deep.DeepCutAuto
import Derived.Deep.Light
import Derived.Lib.QuietBelow
namespace Go.Proofs.YtjplnelffiegmaaDoor
open Go.RowKit Go.Joins Go.Sort

def minI : Int := -9223372036854775808
def txtA : ByteArray := ⟨#[97]⟩
abbrev cellsOf (k n : Int) (s : ByteArray) (a0 a1 a2 a3 a4 a5 a6 a7 : Int) : Array Value := #[.int .i64 k, .int .i64 n, .string s, .int .i64 a0, .int .i64 a1, .int .i64 a2, .int .i64 a3, .int .i64 a4, .int .i64 a5, .int .i64 a6, .int .i64 a7]
/- What stands in memory while the examples are gone through: the three values in their blocks; nothing older has turned. -/
structure Env (w0 : World) (b1 b2 b3 : Nat) (w : World) : Prop where
  k1 : w.heap[b1]? = some (.cells (cellsOf 1 1 ⟨#[]⟩ 0 0 0 0 0 0 0 0) 24 (0, 0))
  k2 : w.heap[b2]? = some (.cells (cellsOf 2 0 ⟨#[97]⟩ 0 0 0 0 0 0 0 0) 24 (0, 0))
  l3 : b3 < w.heap.size
  k3 : ∀ o, o < 11 → w.cell? ⟨b3, o, none⟩ = (cellsOf 1 minI ⟨#[]⟩ 0 0 0 0 0 0 0 0)[o]?
  bel : Below w0.heap.size w0 w
theorem lt_of_block {w : World} {b : Nat} {o : Obj} (h : w.heap[b]? = some o) : b < w.heap.size := (Array.getElem?_eq_some_iff.1 h).1
theorem block_on {w w' : World} {b : Nat} {o : Obj} (h : w.heap[b]? = some o) (hb : Below w.heap.size w w') : w'.heap[b]? = some o := (hb.block b (lt_of_block h)).trans h
theorem Env.on {w0 : World} {b1 b2 b3 : Nat} {w w' : World} (h : Env w0 b1 b2 b3 w) (hb : Below w.heap.size w w') : Env w0 b1 b2 b3 w' :=
  ⟨block_on h.k1 hb, block_on h.k2 hb, Nat.lt_of_lt_of_le h.l3 hb.size, fun o ho => (hb.cell (p := ⟨b3, o, none⟩) h.l3).trans (h.k3 o ho), below_on h.bel hb⟩
theorem Env.alloc {w0 : World} {b1 b2 b3 : Nat} {w : World} (h : Env w0 b1 b2 b3 w) (o : Obj) : Env w0 b1 b2 b3 (w.alloc o) :=
  h.on ((Below.refl _ _).alloc (Nat.le_refl _) _)
theorem block_cell {w : World} {b : Nat} {xs : Array Value} {t : TypeId} {fz : Nat × Nat} (h : w.heap[b]? = some (.cells xs t fz)) (o : Nat) : w.cell? ⟨b, o, none⟩ = xs[o]? := by
  simp [World.cell?, h]
theorem alloc_block (w : World) (o : Obj) : (w.alloc o).heap[w.heap.size]? = some o := by
  show (w.heap.push o)[w.heap.size]? = _
  simp
theorem env_mk {w0 W wF : World} {b1 b2 b3 : Nat} (k1 : W.heap[b1]? = some (.cells (cellsOf 1 1 ⟨#[]⟩ 0 0 0 0 0 0 0 0) 24 (0, 0))) (k2 : W.heap[b2]? = some (.cells (cellsOf 2 0 ⟨#[97]⟩ 0 0 0 0 0 0 0 0) 24 (0, 0)))
    (h0 : Below w0.heap.size w0 W) (hb : Below W.heap.size W wF) (l3 : b3 < wF.heap.size) (k3 : ∀ o, o < 11 → wF.cell? ⟨b3, o, none⟩ = (cellsOf 1 minI ⟨#[]⟩ 0 0 0 0 0 0 0 0)[o]?) : Env w0 b1 b2 b3 wF :=
  ⟨block_on k1 hb, block_on k2 hb, l3, k3, below_on h0 hb⟩
theorem lt11 {i : Nat} (h : i < 11) : i = 0 ∨ i = 1 ∨ i = 2 ∨ i = 3 ∨ i = 4 ∨ i = 5 ∨ i = 6 ∨ i = 7 ∨ i = 8 ∨ i = 9 ∨ i = 10 := by omega
theorem valid_of_int (n : Int) : validB 1 n ⟨#[]⟩ 0 0 0 0 0 0 0 0 = true := by simp [validB, noText, zeroH, eqH]
theorem add_top {w : World} : Calls Tryd.prog 18 #[V 1 9223372036854775807 ⟨#[]⟩ 0 0 0 0 0 0 0 0, V 1 1 ⟨#[]⟩ 0 0 0 0 0 0 0 0] w fun e w' => e = .returned (.tuple #[V 1 minI ⟨#[]⟩ 0 0 0 0 0 0 0 0, .int .i64 0]) ∧ Below w.heap.size w w' := by
  have h : minI = wrap64 (9223372036854775807 + 1) := by unfold minI; go_arith
  rw [h]
  exact add_int (valid_of_int _) (valid_of_int _)
theorem ofStr_short {s : ByteArray} {w : World} (h : s.size ≤ 64) :
    Calls Tryd.prog 23 #[.string s] w fun e w' => e = .returned (V 2 0 s 0 0 0 0 0 0 0 0) ∧ Below w.heap.size w w' := by
  have := @ofStr_any s w
  rw [cut64_short h] at this
  exact this
theorem compare_is {k n : Int} {s : ByteArray} {a0 a1 a2 a3 a4 a5 a6 a7 : Int} {k' n' : Int} {s' : ByteArray} {b0 b1 b2 b3 b4 b5 b6 b7 : Int} {w : World} (r : Int) (h : cmpV k n s a0 a1 a2 a3 a4 a5 a6 a7 k' n' s' b0 b1 b2 b3 b4 b5 b6 b7 = r) :
    Calls Tryd.prog 14 #[V k n s a0 a1 a2 a3 a4 a5 a6 a7, V k' n' s' b0 b1 b2 b3 b4 b5 b6 b7] w fun e w' => e = .returned (.int .i64 r) ∧ Below w.heap.size w w' := by
  rw [← h]; exact compare_any
theorem holds_is {how k n : Int} {s : ByteArray} {a0 a1 a2 a3 a4 a5 a6 a7 : Int} {k' n' : Int} {s' : ByteArray} {b0 b1 b2 b3 b4 b5 b6 b7 : Int} {w : World} (r : Bool) (h : holdsB how k k' (cmpV k n s a0 a1 a2 a3 a4 a5 a6 a7 k' n' s' b0 b1 b2 b3 b4 b5 b6 b7) = r) :
    Calls Tryd.prog 16 #[.int .i64 how, V k n s a0 a1 a2 a3 a4 a5 a6 a7, V k' n' s' b0 b1 b2 b3 b4 b5 b6 b7] w fun e w' => e = .returned (.bool r) ∧ Below w.heap.size w w' := by
  rw [← h]; exact holds_any
theorem valid_is {k n : Int} {s : ByteArray} {a0 a1 a2 a3 a4 a5 a6 a7 : Int} {w : World} (r : Bool) (h : validB k n s a0 a1 a2 a3 a4 a5 a6 a7 = r) :
    Calls Tryd.prog 10 #[V k n s a0 a1 a2 a3 a4 a5 a6 a7] w fun e w' => e = .returned (.bool r) ∧ Below w.heap.size w w' := by
  rw [← h]; exact valid_any
theorem text_m5 {w : World} (ht : Tab w) : Calls Tryd.prog 12 #[V 1 (-5) ⟨#[]⟩ 0 0 0 0 0 0 0 0] w fun e w' => e = .returned (.string ⟨#[45, 53]⟩) ∧ Below w.heap.size w w' := by
  have h : (⟨#[45, 53]⟩ : ByteArray) = ⟨(Lib.itoa (-5)).toArray⟩ := by simp [Lib.itoa, Lib.decDigits]
  rw [h]
  exact text_int (valid_of_int _) (by omega) (by omega) ht
theorem text_ab {w : World} : Calls Tryd.prog 12 #[V 2 0 ⟨#[97, 34, 98]⟩ 0 0 0 0 0 0 0 0] w fun e w' => e = .returned (.string ⟨#[34, 97, 92, 34, 98, 34]⟩) ∧ Below w.heap.size w w' := by
  have h : (⟨#[34, 97, 92, 34, 98, 34]⟩ : ByteArray) = ⟨(34 :: (esc (⟨#[97, 34, 98]⟩ : ByteArray).data.toList ++ [34])).toArray⟩ := by simp [esc, escC]
  rw [h]
  exact text_str (by simp [validB, zeroH, eqH]; decide)
theorem field3 (k n : Int) (s : ByteArray) (a0 a1 a2 a3 a4 a5 a6 a7 : Int) (w : World) : (Instr.field 24 (V k n s a0 a1 a2 a3 a4 a5 a6 a7) 3).run Tryd.prog w = .ok (H8 a0 a1 a2 a3 a4 a5 a6 a7) w := by
  have a22' := Tryd.isAgg22
  have z22 := Tryd.sizeOf22
  simp [Instr.field, go_sem, run_underlying Tryd.underlying24, asAgg]
theorem below_drew_on {W w3 w4 : World} (h3 : Below W.drew.heap.size W.drew w3) (h4 : Below w3.heap.size w3 w4) : Below W.heap.size W w4 :=
  below_on (show Below W.heap.size W w3 from (Below.refl _ _).drew.trans h3) h4
theorem below_r1 {W w3 w4 : World} (h3 : Below W.drew.heap.size W.drew w3) (h4 : Below w3.heap.size w3 w4) : Below W.heap.size W w4 :=
  below_on (show Below W.heap.size W w3 from (Below.refl _ _).drew.trans h3) h4
theorem below_r2 {W w3 w4 : World} {o : Obj} (h3 : Below W.drew.heap.size W.drew w3) (h4 : Below (w3.alloc o).heap.size (w3.alloc o) w4) : Below W.heap.size W w4 :=
  below_on (show Below W.heap.size W w3 from (Below.refl _ _).drew.trans h3) (below_on ((Below.refl _ _).alloc (Nat.le_refl _) _) h4)
theorem below_r3 {W w3 w4 : World} {o : Obj} (h3 : Below (W.alloc o).drew.heap.size (W.alloc o).drew w3) (h4 : Below w3.heap.size w3 w4) : Below W.heap.size W w4 :=
  below_on (below_on ((Below.refl _ _).alloc (Nat.le_refl _) o) (show Below (W.alloc o).heap.size (W.alloc o) w3 from (Below.refl _ _).drew.trans h3)) h4
set_option maxHeartbeats 4000000 in
set_option maxRecDepth 100000 in
theorem shown_any {w : World} (ht : Tab w) :
    Calls Tryd.prog 9 #[] w fun e w' => e = .returned (.bool true) ∧ Below w.heap.size w w' := by
  have HT := hid ht
  clear ht
  go_enter Tryd.func9, Tryd.ntmps9
  go_wp2_with fail
  refine ofInt_any.mono ?_
  rintro e w1 ⟨rfl, hb1⟩
  have HB1 := hid hb1
  clear hb1
  go_wp2_with fail
  refine (ofStr_short (by decide)).mono ?_
  rintro e w2 ⟨rfl, hb2⟩
  have HB2 := hid hb2
  clear hb2
  go_upto_region 3 with fail
  have K0 := hid (block_on (alloc_block w1 (.cells (cellsOf 1 1 ⟨#[]⟩ 0 0 0 0 0 0 0 0) 24 (0, 0))) HB2.out)
  have K1 := hid (block_on K0.out ((Below.refl _ _).alloc (Nat.le_refl _) (.cells (cellsOf 2 0 ⟨#[97]⟩ 0 0 0 0 0 0 0 0) 24 (0, 0))))
  have l1 : w1.heap.size < w2.heap.size := by have := HB2.out.size; simp at this; omega
  have l2 : w1.heap.size < w2.heap.size + 1 := by omega
  have c1 := fun o => block_cell K0.out o
  have HB3 := hid (show Below w.heap.size w (w2.alloc (.cells (cellsOf 2 0 ⟨#[97]⟩ 0 0 0 0 0 0 0 0) 24 (0, 0))) from below_on (below_on (below_on HB1.out ((Below.refl _ _).alloc (Nat.le_refl _) _)) HB2.out) ((Below.refl _ _).alloc (Nat.le_refl _) _))
  go_cut [3, 4] (fun s3 s4 wx => ∃ b3, s3 = .pointer (some ⟨b3, 0, none⟩) ∧ s4 = .int .i64 0 ∧ Env w w1.heap.size w2.heap.size b3 wx)
  case first =>
    go_region_with (first
      | (go_at_call 20; refine ofInt_any.mono ?_; rintro e w3 ⟨rfl, hb3⟩; obtain ⟨hc3, hf3⟩ := bcell hb3; have hz3 : w2.heap.size < w3.heap.size := (by have := hb3.size; simp at this; omega); have hz3' : w1.heap.size < w3.heap.size := (by omega); try (have hz3'' : w2.heap.size + 1 < w3.heap.size := (by have := hb3.size; simp at this; omega)))
      | (go_at_call 18; refine add_top.mono ?_; rintro e w4 ⟨rfl, hb4⟩; obtain ⟨hc4, hf4⟩ := bcell hb4))
    all_goals
      go_wp2_with fail
      go_meet
      go_light
      refine ⟨_, rfl, rfl, env_mk K1.out (alloc_block _ _) HB3.out ?_ ?_ ?_⟩
      · have hb5 : Below (w2.alloc (Obj.cells (cellsOf 2 0 ⟨#[97]⟩ 0 0 0 0 0 0 0 0) 24 (0, 0))).heap.size (w2.alloc (Obj.cells (cellsOf 2 0 ⟨#[97]⟩ 0 0 0 0 0 0 0 0) 24 (0, 0))) w4 := by
          first | exact below_r1 hb3 hb4 | exact below_r2 hb3 hb4 | exact below_r3 hb3 hb4
        have hz5 : w2.heap.size + 1 ≤ w3.heap.size := by omega
        have hz6 := hb5.size
        clear hb3 hb4 hc3 hc4 hf3 hf4
        go_grown
      · have hz7 := hb4.size
        try simp at hz7
        simp
        try omega
      · intro o ho
        rcases lt11 ho with rfl | rfl | rfl | rfl | rfl | rfl | rfl | rfl | rfl | rfl | rfl <;> (simp [go_sem, *]; done)
  case rest =>
  obtain ⟨b3, rfl, rfl, E⟩ := hcut
  clear c1 l1 l2 K0 K1 HB3 HB1 HB2
  have l1 := lt_of_block E.k1
  have l2 := lt_of_block E.k2
  have l3 := E.l3
  have c1 := fun o => block_cell E.k1 o
  have c2 := fun o => block_cell E.k2 o
  have c3 := E.k3
  generalize w1.heap.size = b1 at *
  generalize w2.heap.size = b2 at *
  clear w1 w2
  go_wp2_with fail
  refine (add_kinds (by decide)).mono ?_
  rintro e w5 ⟨rfl, hb⟩
  replace E := (E.on hb).alloc (.cells (cellsOf 0 0 ⟨#[]⟩ 0 0 0 0 0 0 0 0) 24 (0, 0))
  clear hb l1 l2 l3 c1 c2 c3
  go_wp2_with fail
  generalize (w5.alloc (.cells (cellsOf 0 0 ⟨#[]⟩ 0 0 0 0 0 0 0 0) 24 (0, 0))) = W at *
  have k1 : ∀ d os o, (grow (redrawn W d) os).cell? ⟨b1, o, none⟩ = (cellsOf 1 1 ⟨#[]⟩ 0 0 0 0 0 0 0 0)[o]? := fun d os o => block_cell (block_on E.k1 (below_regrown W d os)) o
  have k2 : ∀ d os o, (grow (redrawn W d) os).cell? ⟨b2, o, none⟩ = (cellsOf 2 0 ⟨#[97]⟩ 0 0 0 0 0 0 0 0)[o]? := fun d os o => block_cell (block_on E.k2 (below_regrown W d os)) o
  have k3 : ∀ d os o, o < 11 → (grow (redrawn W d) os).cell? ⟨b3, o, none⟩ = (cellsOf 1 minI ⟨#[]⟩ 0 0 0 0 0 0 0 0)[o]? := fun d os o ho => (E.on (below_regrown W d os)).k3 o ho
  have m1 : cmpV 1 1 ⟨#[]⟩ 0 0 0 0 0 0 0 0 1 2 ⟨#[]⟩ 0 0 0 0 0 0 0 0 = -1 := by simp [cmpV, cmpI, thn]
  have m2 : cmpV 1 5 ⟨#[]⟩ 0 0 0 0 0 0 0 0 2 0 ⟨#[97]⟩ 0 0 0 0 0 0 0 0 = -1 := by simp [cmpV, cmpI, thn]
  have m3 : cmpV 3 (b2i true) ⟨#[]⟩ 0 0 0 0 0 0 0 0 3 (b2i false) ⟨#[]⟩ 0 0 0 0 0 0 0 0 = 1 := by simp [cmpV, cmpI, thn, b2i]
  have m4 : eqV 1 minI ⟨#[]⟩ 0 0 0 0 0 0 0 0 1 (-9223372036854775808) ⟨#[]⟩ 0 0 0 0 0 0 0 0 = true := by simp [eqV, eqH, minI]
  have m5 : eqH 0 0 1 0 0 0 0 0 0 0 1 0 0 0 0 0 = true := by simp [eqH]
  have m6 : ∀ c, holdsB 2 1 2 c = false := by simp [holdsB]
  have m7 : ∀ c, holdsB 9 1 1 c = false := by simp [holdsB]
  have m8 : holdsB 3 1 1 (-1) = true := by simp [holdsB]
  have m9 := valid_of_int 1
  have e1 := @eql24
  have e2 := @eql22
  have e3 := @field3
  have HT' : ∀ d os, Hid (Tab (grow (redrawn W d) os)) := fun d os => HT.out.on (below_on E.bel (below_regrown W d os))
  simp only [List.append_eq, List.cons_append, List.nil_append]
  refine wp_region_quiet_below (by kernel_rfl) (by kernel_rfl) ?_
  repeat (go_big_quiet_step (first
    | (go_at_call 20; exact Calls.regrown_of ofInt_any)
    | (go_at_call 14; exact Calls.regrown_of compare_any)
    | (go_at_call 24; exact Calls.regrown_of ofBool_any)
    | (go_at_call 23; exact Calls.regrown_of (ofStr_short (by decide)))
    | (go_at_call 21; exact Calls.regrown_of (bucket_2 (by omega) (by omega)))
    | (go_at_call_of 12 (1 : Int); exact Calls.regrown_of (text_m5 (HT' _ _).out))
    | (go_at_call 12; exact Calls.regrown_of text_ab)
    | (go_at_call 16; exact Calls.regrown_of holds_any)
    | (go_at_call 10; exact Calls.regrown_of valid_any)))
  refine wpQuiet_nil ?_
  intro _ hw'
  obtain ⟨⟨dq, osq⟩, hw''⟩ := hw'
  subst hw''
  go_wp2
  go_ret
  exact ⟨rfl, below_on E.bel (below_regrown W dq osq)⟩
end Go.Proofs.YtjplnelffiegmaaDoor
