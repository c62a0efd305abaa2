/-
  What the reader's small functions return.
-/
import Derived.Test.YtomnjckbgmbgmaaGreatDoorQPMem
namespace Go.Proofs.YtomnjckbgmbgmaaGreatDoor
open Go.RowKit Go.Joins

theorem size_tok : (Tryz.prog.info? 33).map (·.size) = some 4 := by kernel_rfl
theorem size_val : (Tryz.prog.info? 47).map (·.size) = some 11 := by kernel_rfl
theorem size_agg : (Tryz.prog.info? 80).map (·.size) = some 2 := by kernel_rfl
/- A result that lies in a block of its own. -/
theorem ret_tok {fn : Func} {R : Ending → World → Prop} {a : Act} {w : World} {p : Tmp} {g : Nat} {cs : Array Value} (h : fn.results = #[.cell p 33]) (hp : a.tmps.getD p undef = dp g) (hg : w.heap[g]? = some (.cells cs 33 (0, 0))) (hs : cs.size = 4) (hd : a.defers = []) (hR : R (.returned (.agg cs)) w) : bodyPost Tryz.prog fn R .ret a w :=
  ⟨hd, _, results_cell_row h a.tmps w g 33 cs (0, 0) _ hp hg Tryz.underlying33 rfl (by rw [hs]; exact size_tok), hR⟩
theorem ret_nd {fn : Func} {R : Ending → World → Prop} {a : Act} {w : World} {p : Tmp} {g : Nat} {cs : Array Value} (h : fn.results = #[.cell p 52]) (hp : a.tmps.getD p undef = dp g) (hg : w.heap[g]? = some (.cells cs 52 (0, 0))) (hs : cs.size = 19) (hd : a.defers = []) (hR : R (.returned (.agg cs)) w) : bodyPost Tryz.prog fn R .ret a w :=
  ⟨hd, _, results_cell_row h a.tmps w g 52 cs (0, 0) _ hp hg Tryz.underlying52 rfl (by rw [hs]; exact size_node), hR⟩
theorem ret_val {fn : Func} {R : Ending → World → Prop} {a : Act} {w : World} {p : Tmp} {g : Nat} {cs : Array Value} (h : fn.results = #[.cell p 47]) (hp : a.tmps.getD p undef = dp g) (hg : w.heap[g]? = some (.cells cs 47 (0, 0))) (hs : cs.size = 11) (hd : a.defers = []) (hR : R (.returned (.agg cs)) w) : bodyPost Tryz.prog fn R .ret a w :=
  ⟨hd, _, results_cell_row h a.tmps w g 47 cs (0, 0) _ hp hg Tryz.underlying47 rfl (by rw [hs]; exact size_val), hR⟩
theorem ret_ag {fn : Func} {R : Ending → World → Prop} {a : Act} {w : World} {p : Tmp} {g : Nat} {cs : Array Value} (h : fn.results = #[.cell p 80]) (hp : a.tmps.getD p undef = dp g) (hg : w.heap[g]? = some (.cells cs 80 (0, 0))) (hs : cs.size = 2) (hd : a.defers = []) (hR : R (.returned (.agg cs)) w) : bodyPost Tryz.prog fn R .ret a w :=
  ⟨hd, _, results_cell_row h a.tmps w g 80 cs (0, 0) _ hp hg Tryz.underlying80 rfl (by rw [hs]; exact size_agg), hR⟩
section
variable {B : Nat} {ts : List Tp} {w : World} {rb : Nat} {tv sv : Value} {o i : Nat} {qs : List Nd}
/- Behind a call: what is new may turn. -/
theorem Rq.back {w1 w2 : World} {j o' : Nat} (h0 : Rq B ts w rb tv sv o i qs) (h1 : Rq B ts w1 rb tv sv o' j qs) (hk : Kp (fun k => k = rb) w w1) (h2 : Kp (fun k => w.heap.size ≤ k) w1 w2) : Rq B ts w2 rb tv sv o' j qs ∧ Kp (fun k => k = rb) w w2 := by
  have hl := h0.lt
  have hk2 : Kp (fun k => k = rb) w w2 := hk.trans' h2 (fun k hk ht => by omega)
  exact ⟨h0.put hk2 (h2.blk h1.blk (by omega)) h1.il h1.ql h1.ol, hk2⟩
theorem Kp.new {n : Nat} {w1 w2 : World} (h : Below w1.heap.size w1 w2) : Kp (fun k => n ≤ k) w1 w2 := Kp.of h
theorem Kp.set4 (g n : Nat) (hn : n ≤ g) (w : World) (d0 d1 d2 d3 : Value) : Kp (fun k => n ≤ k) w (set4 w g d0 d1 d2 d3) :=
  (((Kp.set (T := fun k => n ≤ k) hn _).trans (Kp.set (T := fun k => n ≤ k) hn _)).trans (Kp.set (T := fun k => n ≤ k) hn _)).trans (Kp.set (T := fun k => n ≤ k) hn _)
theorem here_lt {ts : List Tp} {i : Nat} (h : i < ts.length) : hereS ts i = ts[i] := by
  unfold hereS; rw [List.getElem?_eq_getElem h]; rfl
theorem here_ge {ts : List Tp} {i : Nat} (h : ¬ i < ts.length) : hereS ts i = ⟨0, [], 0, 0⟩ := by
  unfold hereS; rw [List.getElem?_eq_none (by omega)]; rfl
abbrev zTk : Array Value := #[.int .i64 0, .string ⟨#[]⟩, .int .i64 0, .int .i64 0]
set_option maxRecDepth 100000 in
set_option maxHeartbeats 1000000 in
theorem here_any (h : Rq B ts w rb tv sv o i qs) : Calls Tryz.prog 111 #[dp rb] w fun e w' => e = .returned (TkV (hereS ts i)) ∧ Below w.heap.size w w' := by
  have HB : Hid (Below w.heap.size w (w.alloc (.cells zTk 33))) := (Below.refl _ _).alloc (Nat.le_refl _) _
  have h1 := h.on HB.out
  have k0 := h1.cell
  have hz := block_cell (alloc_block w (.cells zTk 33))
  have hlt : w.heap.size < (w.alloc (.cells zTk 33)).heap.size := by simp
  have hfz := block_frozen (alloc_block w (.cells zTk 33))
  have HT := hid h1.tok
  have hil := h.il
  have htl := h.tl
  obtain ⟨p, cap, rfl, hc1, hc2⟩ := h.tok.form
  unfold maxLen at hc2
  have hne : ¬ rb = w.heap.size := by have := h.lt; omega
  generalize hln : ts.length = ln at *
  have HLn := hid hln
  generalize hW : w.alloc (.cells zTk 33) = w1 at *
  have HW := hid hW
  have HBx : Hid (Bx w1 w.heap.size (.int .i64 0) (.string ⟨#[]⟩) (.int .i64 0) (.int .i64 0)) := by rw [← hW]; exact Bx.made _ _ _ _ _
  clear hW h h1 hln
  by_cases hi : i < ln
  · have HH := hid (here_lt (ts := ts) (i := i) (by have := HLn.out; omega))
    obtain ⟨g, og, rfl, hg, hc⟩ := HT.out.at (j := i) (List.getElem?_eq_getElem (by have := HLn.out; omega))
    generalize ts[i]'(by have := HLn.out; omega) = t at *
    have e0 : w1.cell? ⟨g, og + i * 4, none⟩ = some (.int .i64 t.kind) := hc 0 _ rfl
    have e1 : w1.cell? ⟨g, og + i * 4 + 1, none⟩ = some (.string (St t.s)) := hc 1 _ rfl
    have e2 : w1.cell? ⟨g, og + i * 4 + 2, none⟩ = some (.int .i64 t.n) := hc 2 _ rfl
    have e3 : w1.cell? ⟨g, og + i * 4 + 3, none⟩ = some (.int .i64 t.at_) := hc 3 _ rfl
    clear hc HT
    have iI : (i : Int) < ln := by omega
    go_enter Tryz.func111, Tryz.ntmps111
    go_upto_region 1 with fail
    rw [HW.out]
    go_quiet (fail)
    go_wp2_with fail
    go_region
    go_wp2_with fail
    refine ret_tok rfl rfl (Bx.set4 (w := w1.drewN _) HBx.out _ _ _ _) rfl rfl ⟨?_, ?_⟩
    · rw [HH.out]
    · exact below_set4 (below_drewN HB.out _) (Nat.le_refl _) _ _ _ _
  · have HH := hid (here_ge (ts := ts) (i := i) (by have := HLn.out; omega))
    have iI : ¬ (i : Int) < ln := by omega
    have iB : decide (i < ln) = false := by simp; omega
    clear HT
    go_enter Tryz.func111, Tryz.ntmps111
    go_upto_region 1 with fail
    rw [HW.out]
    go_quiet (fail)
    go_wp2_with fail
    refine ret_tok rfl rfl (Bx.set4 (w := w1.drewN _) HBx.out _ _ _ _) rfl rfl ⟨?_, ?_⟩
    · rw [HH.out]; rfl
    · exact below_set4 (below_drewN HB.out _) (Nat.le_refl _) _ _ _ _
set_option maxRecDepth 100000 in
theorem fail_any (h : Rq B ts w rb tv sv o i qs) (c : Int) : Calls Tryz.prog 87 #[dp rb, .int .i64 c] w fun e w' => e = dies (faultV i c) ∧ w' = w := by
  have k0 := h.cell
  clear h
  go_enter Tryz.func87, Tryz.ntmps87
  go_wp2_with fail
  exact ⟨rfl, rfl, rfl⟩
theorem St_dec (x y : List UInt8) : ((St x).toList == (St y).toList) = decide (x = y) := by
  rw [St_eq]
  by_cases h : x = y
  · simp [h]
  · simp [h]
theorem isW_here (ts : List Tp) (i : Nat) (x : List UInt8) : isW ts i x = ((decide ((hereS ts i).kind = 1) || decide ((hereS ts i).kind = 4)) && decide ((hereS ts i).s = x)) := by
  unfold isW hereS
  cases ts[i]? with
  | none => simp
  | some t => simp [Bool.decide_and, Bool.decide_or]
set_option maxRecDepth 100000 in
set_option maxHeartbeats 1000000 in
theorem stands_any (h : Rq B ts w rb tv sv o i qs) (x : List UInt8) : Calls Tryz.prog 91 #[dp rb, .string (St x)] w fun e w' => e = .returned (.bool (isW ts i x)) ∧ Below w.heap.size w w' := by
  have HH := hid (here_any h)
  have HI := hid (isW_here ts i x)
  generalize hereS ts i = t at *
  have hs := St_dec t.s x
  have b1 : (t.kind == 1) = decide (t.kind = 1) := by rw [Bool.eq_iff_iff]; simp
  have b4 : (t.kind == 4) = decide (t.kind = 4) := by rw [Bool.eq_iff_iff]; simp
  clear h
  generalize decide (t.kind = 1) = k1 at *
  generalize decide (t.kind = 4) = k4 at *
  generalize decide (t.s = x) = kx at *
  generalize isW ts i x = r at *
  cases k1 <;> cases k4 <;> cases kx
  all_goals
    (go_enter Tryz.func91, Tryz.ntmps91
     go_wp2_with (go_at_call 111; refine HH.out.mono ?_; rintro e w1 ⟨rfl, hb⟩; have HB := hid hb; clear hb)
     go_ret
     exact ⟨by rw [HI.out]; rfl, HB.out.alloc HB.out.size _⟩)
set_option maxRecDepth 100000 in
set_option maxHeartbeats 1000000 in
theorem skip_any (h : Rq B ts w rb tv sv o i qs) (x : List UInt8) : Calls Tryz.prog 52 #[dp rb, .string (St x)] w fun e w' => e = .returned (.bool (isW ts i x)) ∧ Rq B ts w' rb tv sv o (if isW ts i x then i + 1 else i) qs ∧ Kp (fun k => k = rb) w w' := by
  have HQ := hid h
  have HS := hid (stands_any h x)
  have hil : (i : Int) ≤ 1024 := by have := h.il; have := h.tl; omega
  have hi0 : (0 : Int) ≤ i := by omega
  clear h
  cases hw : isW ts i x with
  | true =>
    have HI := hid (isW_lt hw)
    rw [hw] at HS
    clear hw
    go_enter Tryz.func52, Tryz.ntmps52
    go_wp2_with (go_at_call 91; refine HS.out.mono ?_; rintro e w1 ⟨rfl, hb⟩; have HB := hid hb; have HQ1 := hid (HQ.out.on hb); have k1 := HQ1.out.cell; have z1 := HQ1.out.frozen; clear hb)
    go_ret
    exact ⟨rfl, HQ1.out.next HI.out, (Kp.of HB.out).trans (Kp.set (T := fun k => k = rb) rfl _)⟩
  | false =>
    rw [hw] at HS
    clear hw
    go_enter Tryz.func52, Tryz.ntmps52
    go_wp2_with (go_at_call 91; refine HS.out.mono ?_; rintro e w1 ⟨rfl, hb⟩; have HB := hid hb; have HQ1 := hid (HQ.out.on hb); clear hb)
    go_ret
    exact ⟨rfl, HQ1.out, Kp.of HB.out⟩
abbrev vNone (_ : World) (_ : Unit) (v : Value) : Prop := v = .tuple #[]
set_option maxRecDepth 100000 in
set_option maxHeartbeats 1000000 in
theorem want_any (h : Rq B ts w rb tv sv o i qs) (x : List UInt8) : Calls Tryz.prog 88 #[dp rb, .string (St x)] w (P1 B ts rb tv sv o qs w vNone (wantS ts x i)) := by
  have HS := hid (skip_any h x)
  clear h
  cases hw : isW ts i x with
  | true =>
    have HR : Hid (wantS ts x i = .ok () (i + 1)) := by show _ = _; unfold wantS; rw [hw]; rfl
    rw [hw] at HS
    clear hw
    go_enter Tryz.func88, Tryz.ntmps88
    go_wp2_with (go_at_call 52; refine HS.out.mono ?_; rintro e w1 ⟨rfl, hq, hk⟩; have HQ1 := hid hq; have HK := hid hk; clear hq hk)
    go_end0
    exact ⟨HK.out, .inr ⟨(), _, _, HR.out, rfl, rfl, HQ1.out⟩⟩
  | false =>
    have HR : Hid (wantS ts x i = .bad i 120) := by show _ = _; unfold wantS; rw [hw]; rfl
    rw [hw] at HS
    clear hw
    go_enter Tryz.func88, Tryz.ntmps88
    go_wp2_with (first
      | (go_at_call 52; refine HS.out.mono ?_; rintro e w1 ⟨rfl, hq, hk⟩; have HQ1 := hid hq; have HK := hid hk; clear hq hk)
      | (go_at_call 87; refine (fail_any HQ1.out 120).mono ?_; rintro e w2 ⟨rfl, he⟩; replace he := he.symm; subst he))
    exact ⟨rfl, HK.out, .inl ⟨_, _, HR.out, rfl⟩⟩
theorem isK_here (ts : List Tp) (i : Nat) (k : Int) (hk : ¬ k = 0) : isK ts i k = decide ((hereS ts i).kind = k) := by
  unfold isK hereS
  cases ts[i]? with
  | none => simp; omega
  | some t => rfl
theorem take_def (ts : List Tp) (k : Int) (i : Nat) : takeS ts k i = if isK ts i k then .ok (hereS ts i) (i + 1) else .bad i 120 := rfl
abbrev vTok (_ : World) (t : Tp) (v : Value) : Prop := v = TkV t
set_option maxRecDepth 100000 in
set_option maxHeartbeats 1000000 in
theorem take_any (h : Rq B ts w rb tv sv o i qs) (k : Int) (hk0 : ¬ k = 0) : Calls Tryz.prog 110 #[dp rb, .int .i64 k] w (P1 B ts rb tv sv o qs w vTok (takeS ts k i)) := by
  have HB0 : Hid (Below w.heap.size w (w.alloc (.cells zTk 33))) := (Below.refl _ _).alloc (Nat.le_refl _) _
  have HZ := hid (alloc_block w (.cells zTk 33))
  have HQ := hid (h.on HB0.out)
  have HH := hid (here_any HQ.out)
  have hil : (i : Int) ≤ 1024 := by have := h.il; have := h.tl; omega
  have hne : ¬ rb = w.heap.size := by have := h.lt; omega
  have HR0 := hid h
  have hki := isK_here ts i k hk0
  have HTk := hid (take_def ts k i)
  have HLt := hid (@isK_lt ts i k)
  generalize hereS ts i = t at *
  generalize hW : w.alloc (.cells zTk 33) = w1 at *
  have HW := hid hW
  clear h hW
  have bk : (t.kind != k) = !(decide (t.kind = k)) := by rw [Bool.eq_iff_iff]; simp
  rw [← hki] at bk
  cases hw : isK ts i k with
  | true =>
    rw [hw] at bk HTk HLt
    clear hki hw
    go_enter Tryz.func110, Tryz.ntmps110
    go_upto_region 1 with fail
    rw [HW.out]
    go_wp2_with (go_at_call 111; refine HH.out.mono ?_; rintro e w2 ⟨rfl, hb⟩; have HB := hid (hb.alloc hb.size (.cells #[.int .i64 t.kind, .string (St t.s), .int .i64 t.n, .int .i64 t.at_] 33)); have HQ2 := hid (HQ.out.on HB.out); have HZ2 := hid (block_on HZ.out HB.out); have k2 := HQ2.out.cell; have z2 := HQ2.out.frozen; have kz := block_cell HZ2.out; have zz := block_frozen HZ2.out; have n1 : ¬ rb = w2.heap.size := (by have := HQ.out.lt; have := hb.size; omega); have n2 : ¬ w.heap.size = w2.heap.size := (by have := lt_of_block HZ.out; have := hb.size; omega); have n3 : ¬ w2.heap.size = w.heap.size := (fun e => n2 e.symm); have n4 : ¬ w.heap.size = rb := (fun e => hne e.symm); clear hb)
    have hq3 := HQ2.out.next (HLt.out trivial)
    obtain ⟨a, b⟩ := Rq.back HR0.out hq3 ((Kp.of (HB0.out.trans (HB.out.mono HB0.out.size))).trans (Kp.set (T := fun k => k = rb) rfl _)) (Kp.set4 w.heap.size w.heap.size (Nat.le_refl _) _ (.int .i64 t.kind) (.string (St t.s)) (.int .i64 t.n) (.int .i64 t.at_))
    refine ret_tok rfl rfl (Bx.set4 ((Kp.set (T := fun k => k = rb) rfl _).blk HZ2.out (fun e => hne e.symm)) _ _ _ _) rfl rfl ⟨b, .inr ⟨t, i + 1, _, HTk.out, rfl, rfl, a⟩⟩
  | false =>
    rw [hw] at bk HTk
    clear hki hw
    go_enter Tryz.func110, Tryz.ntmps110
    go_upto_region 1 with fail
    rw [HW.out]
    go_wp2_with (first
      | (go_at_call 111; refine HH.out.mono ?_; rintro e w2 ⟨rfl, hb⟩; have HB := hid (hb.alloc hb.size (.cells #[.int .i64 t.kind, .string (St t.s), .int .i64 t.n, .int .i64 t.at_] 33)); have HQ2 := hid (HQ.out.on HB.out); clear hb)
      | (go_at_call 87; refine (fail_any HQ2.out 120).mono ?_; rintro e w3 ⟨rfl, he⟩; replace he := he.symm; subst he))
    exact ⟨rfl, Kp.of (HB0.out.trans (HB.out.mono HB0.out.size)), .inl ⟨_, _, HTk.out, rfl⟩⟩
theorem fld0 (t : Tp) (w : World) : (Instr.field 33 (TkV t) 0).run Tryz.prog w = .ok (.int .i64 t.kind) w := by kernel_rfl
theorem fld1 (t : Tp) (w : World) : (Instr.field 33 (TkV t) 1).run Tryz.prog w = .ok (.string (St t.s)) w := by kernel_rfl
theorem fld2 (t : Tp) (w : World) : (Instr.field 33 (TkV t) 2).run Tryz.prog w = .ok (.int .i64 t.n) w := by kernel_rfl
abbrev vStr (_ : World) (s : List UInt8) (v : Value) : Prop := v = .string (St s)
abbrev vInt (_ : World) (n : Int) (v : Value) : Prop := v = .int .i64 n
abbrev vNat (_ : World) (n : Nat) (v : Value) : Prop := v = .int .i64 (n : Int)
theorem P1.bad {α : Type} {val : World → α → Value → Prop} {r : Rs α} {j : Nat} {c : Int} {w' : World} (hk : Kp (fun k => k = rb) w w') (h : r = .bad j c) : P1 B ts rb tv sv o qs w val r (dies (faultV j c)) w' := ⟨hk, .inl ⟨_, _, h, rfl⟩⟩
set_option maxRecDepth 100000 in
set_option maxHeartbeats 1000000 in
theorem name_any (h : Rq B ts w rb tv sv o i qs) : Calls Tryz.prog 89 #[dp rb] w (P1 B ts rb tv sv o qs w vStr (nameS ts i)) := by
  have HT := hid (take_any h 1 (by decide))
  have hf := fld1
  clear h
  go_enter Tryz.func89, Tryz.ntmps89
  go_wp2_with (go_at_call 110; refine HT.out.mono ?_; rintro e w1 ⟨hk, ⟨j, c, hr, rfl⟩ | ⟨t, j, v, hr, rfl, rfl, hq⟩⟩; (focus (go_wp2_with fail; exact ⟨rfl, P1.bad hk (by simp only [nameS, hr, Rs.and])⟩)); have HK := hid hk; have HQ := hid hq; have HR := hid hr; clear hk hq hr)
  go_ret
  exact ⟨HK.out, .inr ⟨t.s, j, _, by simp only [nameS, HR.out, Rs.and], rfl, rfl, HQ.out⟩⟩
set_option maxRecDepth 100000 in
set_option maxHeartbeats 1000000 in
theorem number_any (h : Rq B ts w rb tv sv o i qs) : Calls Tryz.prog 90 #[dp rb] w (P1 B ts rb tv sv o qs w vInt (numS' ts i)) := by
  have HT := hid (take_any h 2 (by decide))
  have hf := fld2
  clear h
  go_enter Tryz.func90, Tryz.ntmps90
  go_wp2_with (go_at_call 110; refine HT.out.mono ?_; rintro e w1 ⟨hk, ⟨j, c, hr, rfl⟩ | ⟨t, j, v, hr, rfl, rfl, hq⟩⟩; (focus (go_wp2_with fail; exact ⟨rfl, P1.bad hk (by simp only [numS', hr, Rs.and])⟩)); have HK := hid hk; have HQ := hid hq; have HR := hid hr; clear hk hq hr)
  go_ret
  exact ⟨HK.out, .inr ⟨t.n, j, _, by simp only [numS', HR.out, Rs.and], rfl, rfl, HQ.out⟩⟩
abbrev VlV (x : Int × Int × List UInt8) : Array Value := #[.int .i64 x.1, .int .i64 x.2.1, .string (St x.2.2), .int .i64 0, .int .i64 0, .int .i64 0, .int .i64 0, .int .i64 0, .int .i64 0, .int .i64 0, .int .i64 0]
abbrev zVl : Array Value := #[.int .i64 0, .int .i64 0, .string ⟨#[]⟩, .int .i64 0, .int .i64 0, .int .i64 0, .int .i64 0, .int .i64 0, .int .i64 0, .int .i64 0, .int .i64 0]
abbrev vVal (_ : World) (x : Int × Int × List UInt8) (v : Value) : Prop := v = .agg (VlV x)
theorem one_val (x : Int × Int × List UInt8) : (VlV x).all (·.oneCell') = true := by simp [Value.oneCell']
/- A struct is stored into a block that is the call's own. -/
theorem store_val {ops : Array Oper} {rest : List Oper} {op : Oper} {a : Act} {w : World} {Q : Exit → Act → World → Prop} (hgd : op.guard = none) (x y : Operand) (ho : op.op = .store 47 x y) {g : Nat} {c : Int × Int × List UInt8} (hx : a.eval x = dp g) (hy : a.eval y = .agg (VlV c)) {old : Array Value} (hg : w.heap[g]? = some (.cells old 47 (0, 0))) (hs : old.size = 11)
    (h : ∀ w', w'.heap[g]? = some (.cells (VlV c) 47 (0, 0)) → Kp (fun k => k = g) w w' → wpList Tryz.prog ops Q rest (a.put op.dst undef) w') : wpList Tryz.prog ops Q (op :: rest) a w :=
  wpList_store_row hgd 47 x y ho hx hy hg size_val (by rw [hs]; rfl) (one_val c) (fun w' h1 h2 _ => h w' h1 h2)
set_option maxRecDepth 100000 in
set_option maxHeartbeats 1000000 in
theorem txt_any (h : Rq B ts w rb tv sv o i qs) : Calls Tryz.prog 142 #[dp rb] w (P1 B ts rb tv sv o qs w vVal (textV ts i)) := by
  have HB0 : Hid (Below w.heap.size w (w.alloc (.cells zVl 47))) := (Below.refl _ _).alloc (Nat.le_refl _) _
  have HZ := hid (alloc_block w (.cells zVl 47))
  have HT := hid (take_any (h.on HB0.out) 3 (by decide))
  have hf := fld1
  have HR0 := hid h
  generalize hW : w.alloc (.cells zVl 47) = w1 at *
  have HW := hid hW
  clear h hW
  go_enter Tryz.func142, Tryz.ntmps142
  go_upto_region 1 with fail
  rw [HW.out]
  go_wp2_with (first
    | (go_at_call 110; refine HT.out.mono ?_; rintro e w2 ⟨hk, ⟨j, c, hr, rfl⟩ | ⟨t, j, v, hr, rfl, rfl, hq⟩⟩; (focus (go_wp2_with fail; exact ⟨rfl, P1.bad ((Kp.of HB0.out).trans hk) (by simp only [textV, hr, Rs.and])⟩)); have HK := hid hk; have HQ := hid hq; have HR := hid hr; clear hk hq hr)
    | (refine store_val (c := (2, 0, t.s)) rfl _ _ rfl rfl rfl (HK.out.blk HZ.out (fun e => by have := HR0.out.lt; omega)) rfl ?_; intro w3 h3 k3; have H3 := hid h3; have K3 := hid k3; clear h3 k3))
  obtain ⟨a, b⟩ := Rq.back HR0.out HQ.out ((Kp.of HB0.out).trans HK.out) (K3.out.imp (fun k _ e => by omega))
  exact ret_val rfl rfl H3.out rfl rfl ⟨b, .inr ⟨(2, 0, t.s), j, _, by simp only [textV, HR.out, Rs.and], rfl, rfl, a⟩⟩
set_option maxRecDepth 100000 in
set_option maxHeartbeats 1000000 in
theorem leave_any (h : Rq B ts w rb tv sv (o + 1) i qs) : Calls Tryz.prog 120 #[dp rb] w fun e w' => e = .returned (.tuple #[]) ∧ Rq B ts w' rb tv sv o i qs ∧ Kp (fun k => k = rb) w w' := by
  have HQ := hid h
  have k1 := h.cell
  have z1 := h.frozen
  have ho : (o : Int) ≤ 16 := by have := h.ol; omega
  have e1 : ((o : Int) + 1) - 1 = o := by omega
  simp only [Int.natCast_add, Int.cast_ofNat_Int] at k1
  clear h
  go_enter Tryz.func120, Tryz.ntmps120
  go_wp2_with fail
  go_end0
  refine ⟨rfl, ?_, Kp.set (T := fun k => k = rb) rfl _⟩
  exact HQ.out.less
/- A bracket or a not: open if it is there and may be. -/
def EnP (B : Nat) (ts : List Tp) (rb : Nat) (tv sv : Value) (o i : Nat) (qs : List Nd) (w : World) (x : List UInt8) (e : Ending) (w' : World) : Prop :=
  Kp (fun k => k = rb) w w' ∧ ((isW ts i x = false ∧ e = .returned (.bool false) ∧ Rq B ts w' rb tv sv o i qs) ∨ (isW ts i x = true ∧ o = 16 ∧ e = dies (faultV i 2)) ∨ (isW ts i x = true ∧ o < 16 ∧ e = .returned (.bool true) ∧ Rq B ts w' rb tv sv (o + 1) (i + 1) qs))
set_option maxRecDepth 100000 in
set_option maxHeartbeats 1000000 in
theorem enter_any (h : Rq B ts w rb tv sv o i qs) (x : List UInt8) : Calls Tryz.prog 119 #[dp rb, .string (St x)] w (EnP B ts rb tv sv o i qs w x) := by
  have HQ := hid h
  have HS := hid (stands_any h x)
  have hil : (i : Int) ≤ 1024 := by have := h.il; have := h.tl; omega
  have hol := h.ol
  clear h
  cases hw : isW ts i x with
  | true =>
    have HI := hid (isW_lt hw)
    have HWx := hid hw
    rw [hw] at HS
    clear hw
    by_cases h16 : o = 16
    · have oI : (16 : Int) ≤ (o : Int) := by omega
      have HO := hid h16
      clear h16 hol
      go_enter Tryz.func119, Tryz.ntmps119
      go_wp2_with (first
        | (go_at_call 91; refine HS.out.mono ?_; rintro e w1 ⟨rfl, hb⟩; have HB := hid hb; have HQ1 := hid (HQ.out.on hb); have k1 := HQ1.out.cell; have z1 := HQ1.out.frozen; clear hb)
        | (go_at_call 87; refine (fail_any HQ1.out 2).mono ?_; rintro e w2 ⟨rfl, he⟩; replace he := he.symm; subst he))
      exact ⟨rfl, Kp.of HB.out, .inr (.inl ⟨HWx.out, HO.out, rfl⟩)⟩
    · have oI : ¬ (16 : Int) ≤ (o : Int) := by omega
      have oJ : (o : Int) < 16 := by omega
      have HO : Hid (o < 16) := by show _ < _; omega
      clear h16 hol
      go_enter Tryz.func119, Tryz.ntmps119
      go_wp2_with (go_at_call 91; refine HS.out.mono ?_; rintro e w1 ⟨rfl, hb⟩; have HB := hid hb; have HQ1 := hid (HQ.out.on hb); have k1 := HQ1.out.cell; have z1 := HQ1.out.frozen; clear hb)
      go_ret
      exact ⟨(Kp.of HB.out).trans ((Kp.set (T := fun k => k = rb) rfl _).trans (Kp.set (T := fun k => k = rb) rfl _)), .inr (.inr ⟨HWx.out, HO.out, rfl, HQ1.out.next2 HI.out HO.out⟩)⟩
  | false =>
    have HWx := hid hw
    rw [hw] at HS
    clear hw
    go_enter Tryz.func119, Tryz.ntmps119
    go_wp2_with (go_at_call 91; refine HS.out.mono ?_; rintro e w1 ⟨rfl, hb⟩; have HB := hid hb; have HQ1 := hid (HQ.out.on hb); clear hb)
    go_ret
    exact ⟨Kp.of HB.out, .inl ⟨HWx.out, rfl, HQ1.out⟩⟩
end
end Go.Proofs.YtomnjckbgmbgmaaGreatDoor
