/-
  What the reader's small functions return.
  What oneOf, how, agg, value and the two lists return.
-/
import Derived.Test.YtmpjmimhoikknaaGreatDoorK03
namespace Go.Proofs.YtmpjmimhoikknaaGreatDoor
open Go.RowKit Go.Joins

theorem size_tok : (Tryz.prog.info? 85).map (·.size) = some 4 := by kernel_rfl
theorem size_val : (Tryz.prog.info? 39).map (·.size) = some 11 := by kernel_rfl
theorem size_agg : (Tryz.prog.info? 61).map (·.size) = some 2 := by kernel_rfl
/- A result that lies in a block of its own. -/
theorem ret_tok {fn : Func} {R : Ending → World → Prop} {a : Act} {w : World} {p : Tmp} {g : Nat} {cs : Array Value} (h : fn.results = #[.cell p 85]) (hp : a.tmps.getD p undef = dp g) (hg : w.heap[g]? = some (.cells cs 85 (0, 0))) (hs : cs.size = 4) (hd : a.defers = []) (hR : R (.returned (.agg cs)) w) : bodyPost Tryz.prog fn R .ret a w :=
  ⟨hd, _, results_cell_row h a.tmps w g 85 cs (0, 0) _ hp hg Tryz.underlying85 rfl (by rw [hs]; exact size_tok), hR⟩
theorem ret_nd {fn : Func} {R : Ending → World → Prop} {a : Act} {w : World} {p : Tmp} {g : Nat} {cs : Array Value} (h : fn.results = #[.cell p 44]) (hp : a.tmps.getD p undef = dp g) (hg : w.heap[g]? = some (.cells cs 44 (0, 0))) (hs : cs.size = 19) (hd : a.defers = []) (hR : R (.returned (.agg cs)) w) : bodyPost Tryz.prog fn R .ret a w :=
  ⟨hd, _, results_cell_row h a.tmps w g 44 cs (0, 0) _ hp hg Tryz.underlying44 rfl (by rw [hs]; exact size_node), hR⟩
theorem ret_val {fn : Func} {R : Ending → World → Prop} {a : Act} {w : World} {p : Tmp} {g : Nat} {cs : Array Value} (h : fn.results = #[.cell p 39]) (hp : a.tmps.getD p undef = dp g) (hg : w.heap[g]? = some (.cells cs 39 (0, 0))) (hs : cs.size = 11) (hd : a.defers = []) (hR : R (.returned (.agg cs)) w) : bodyPost Tryz.prog fn R .ret a w :=
  ⟨hd, _, results_cell_row h a.tmps w g 39 cs (0, 0) _ hp hg Tryz.underlying39 rfl (by rw [hs]; exact size_val), hR⟩
theorem ret_ag {fn : Func} {R : Ending → World → Prop} {a : Act} {w : World} {p : Tmp} {g : Nat} {cs : Array Value} (h : fn.results = #[.cell p 61]) (hp : a.tmps.getD p undef = dp g) (hg : w.heap[g]? = some (.cells cs 61 (0, 0))) (hs : cs.size = 2) (hd : a.defers = []) (hR : R (.returned (.agg cs)) w) : bodyPost Tryz.prog fn R .ret a w :=
  ⟨hd, _, results_cell_row h a.tmps w g 61 cs (0, 0) _ hp hg Tryz.underlying61 rfl (by rw [hs]; exact size_agg), hR⟩
section
variable {B : Nat} {ts : List Tp} {w : World} {rb : Nat} {tv sv : Value} {o i : Nat} {qs : List Nd}
/- Behind a call: what is new may turn. -/
theorem Rq.back {w1 w2 : World} {j o' : Nat} (h0 : Rq B ts w rb tv sv o i qs) (h1 : Rq B ts w1 rb tv sv o' j qs) (hk : Kp (fun k => k = rb) w w1) (h2 : Kp (fun k => w.heap.size ≤ k) w1 w2) : Rq B ts w2 rb tv sv o' j qs ∧ Kp (fun k => k = rb) w w2 := by
  have hl := h0.lt
  have hk2 : Kp (fun k => k = rb) w w2 := hk.trans' h2 (fun k hk ht => by omega)
  exact ⟨h0.put hk2 (h2.blk h1.blk (by omega)) h1.il h1.ql h1.ol, hk2⟩
theorem Kp.new {n : Nat} {w1 w2 : World} (h : Below w1.heap.size w1 w2) : Kp (fun k => n ≤ k) w1 w2 := Kp.of h
theorem Kp.set4 (g n : Nat) (hn : n ≤ g) (w : World) (d0 d1 d2 d3 : Value) : Kp (fun k => n ≤ k) w (set4 w g d0 d1 d2 d3) :=
  (((Kp.set (T := fun k => n ≤ k) hn _).trans (Kp.set (T := fun k => n ≤ k) hn _)).trans (Kp.set (T := fun k => n ≤ k) hn _)).trans (Kp.set (T := fun k => n ≤ k) hn _)
theorem here_lt {ts : List Tp} {i : Nat} (h : i < ts.length) : hereS ts i = ts[i] := by
  unfold hereS; rw [List.getElem?_eq_getElem h]; rfl
theorem here_ge {ts : List Tp} {i : Nat} (h : ¬ i < ts.length) : hereS ts i = ⟨0, [], 0, 0⟩ := by
  unfold hereS; rw [List.getElem?_eq_none (by omega)]; rfl
abbrev zTk : Array Value := #[.int .i64 0, .string ⟨#[]⟩, .int .i64 0, .int .i64 0]
set_option maxRecDepth 100000 in
set_option maxHeartbeats 1000000 in
theorem here_any (h : Rq B ts w rb tv sv o i qs) : Calls Tryz.prog 180 #[dp rb] w fun e w' => e = .returned (TkV (hereS ts i)) ∧ Below w.heap.size w w' := by
  have HB : Hid (Below w.heap.size w (w.alloc (.cells zTk 85))) := (Below.refl _ _).alloc (Nat.le_refl _) _
  have h1 := h.on HB.out
  have k0 := h1.cell
  have hz := block_cell (alloc_block w (.cells zTk 85))
  have hlt : w.heap.size < (w.alloc (.cells zTk 85)).heap.size := by simp
  have hfz := block_frozen (alloc_block w (.cells zTk 85))
  have HT := hid h1.tok
  have hil := h.il
  have htl := h.tl
  obtain ⟨p, cap, rfl, hc1, hc2⟩ := h.tok.form
  unfold maxLen at hc2
  have hne : ¬ rb = w.heap.size := by have := h.lt; omega
  generalize hln : ts.length = ln at *
  have HLn := hid hln
  generalize hW : w.alloc (.cells zTk 85) = w1 at *
  have HW := hid hW
  have HBx : Hid (Bx w1 w.heap.size (.int .i64 0) (.string ⟨#[]⟩) (.int .i64 0) (.int .i64 0)) := by rw [← hW]; exact Bx.made _ _ _ _ _
  clear hW h h1 hln
  by_cases hi : i < ln
  · have HH := hid (here_lt (ts := ts) (i := i) (by have := HLn.out; omega))
    obtain ⟨g, og, rfl, hg, hc⟩ := HT.out.at (j := i) (List.getElem?_eq_getElem (by have := HLn.out; omega))
    generalize ts[i]'(by have := HLn.out; omega) = t at *
    have e0 : w1.cell? ⟨g, og + i * 4, none⟩ = some (.int .i64 t.kind) := hc 0 _ rfl
    have e1 : w1.cell? ⟨g, og + i * 4 + 1, none⟩ = some (.string (St t.s)) := hc 1 _ rfl
    have e2 : w1.cell? ⟨g, og + i * 4 + 2, none⟩ = some (.int .i64 t.n) := hc 2 _ rfl
    have e3 : w1.cell? ⟨g, og + i * 4 + 3, none⟩ = some (.int .i64 t.at_) := hc 3 _ rfl
    clear hc HT
    have iI : (i : Int) < ln := by omega
    go_enter Tryz.func180, Tryz.ntmps180
    go_upto_region 1 with fail
    rw [HW.out]
    go_quiet (fail)
    go_wp2_with fail
    go_region
    go_wp2_with fail
    refine ret_tok rfl rfl (Bx.set4 (w := w1.drewN _) HBx.out _ _ _ _) rfl rfl ⟨?_, ?_⟩
    · rw [HH.out]
    · exact below_set4 (below_drewN HB.out _) (Nat.le_refl _) _ _ _ _
  · have HH := hid (here_ge (ts := ts) (i := i) (by have := HLn.out; omega))
    have iI : ¬ (i : Int) < ln := by omega
    have iB : decide (i < ln) = false := by simp; omega
    clear HT
    go_enter Tryz.func180, Tryz.ntmps180
    go_upto_region 1 with fail
    rw [HW.out]
    go_quiet (fail)
    go_wp2_with fail
    refine ret_tok rfl rfl (Bx.set4 (w := w1.drewN _) HBx.out _ _ _ _) rfl rfl ⟨?_, ?_⟩
    · rw [HH.out]; rfl
    · exact below_set4 (below_drewN HB.out _) (Nat.le_refl _) _ _ _ _
set_option maxRecDepth 100000 in
theorem fail_any (h : Rq B ts w rb tv sv o i qs) (c : Int) : Calls Tryz.prog 145 #[dp rb, .int .i64 c] w fun e w' => e = dies (faultV i c) ∧ w' = w := by
  have k0 := h.cell
  clear h
  go_enter Tryz.func145, Tryz.ntmps145
  go_wp2_with fail
  exact ⟨rfl, rfl, rfl⟩
theorem St_dec (x y : List UInt8) : ((St x).toList == (St y).toList) = decide (x = y) := by
  rw [St_eq]
  by_cases h : x = y
  · simp [h]
  · simp [h]
theorem isW_here (ts : List Tp) (i : Nat) (x : List UInt8) : isW ts i x = ((decide ((hereS ts i).kind = 1) || decide ((hereS ts i).kind = 4)) && decide ((hereS ts i).s = x)) := by
  unfold isW hereS
  cases ts[i]? with
  | none => simp
  | some t => simp [Bool.decide_and, Bool.decide_or]
set_option maxRecDepth 100000 in
set_option maxHeartbeats 1000000 in
theorem stands_any (h : Rq B ts w rb tv sv o i qs) (x : List UInt8) : Calls Tryz.prog 149 #[dp rb, .string (St x)] w fun e w' => e = .returned (.bool (isW ts i x)) ∧ Below w.heap.size w w' := by
  have HH := hid (here_any h)
  have HI := hid (isW_here ts i x)
  generalize hereS ts i = t at *
  have hs := St_dec t.s x
  have b1 : (t.kind == 1) = decide (t.kind = 1) := by rw [Bool.eq_iff_iff]; simp
  have b4 : (t.kind == 4) = decide (t.kind = 4) := by rw [Bool.eq_iff_iff]; simp
  clear h
  generalize decide (t.kind = 1) = k1 at *
  generalize decide (t.kind = 4) = k4 at *
  generalize decide (t.s = x) = kx at *
  generalize isW ts i x = r at *
  cases k1 <;> cases k4 <;> cases kx
  all_goals
    (go_enter Tryz.func149, Tryz.ntmps149
     go_wp2_with (go_at_call 180; refine HH.out.mono ?_; rintro e w1 ⟨rfl, hb⟩; have HB := hid hb; clear hb)
     go_ret
     exact ⟨by rw [HI.out]; rfl, HB.out.alloc HB.out.size _⟩)
set_option maxRecDepth 100000 in
set_option maxHeartbeats 1000000 in
theorem skip_any (h : Rq B ts w rb tv sv o i qs) (x : List UInt8) : Calls Tryz.prog 110 #[dp rb, .string (St x)] w fun e w' => e = .returned (.bool (isW ts i x)) ∧ Rq B ts w' rb tv sv o (if isW ts i x then i + 1 else i) qs ∧ Kp (fun k => k = rb) w w' := by
  have HQ := hid h
  have HS := hid (stands_any h x)
  have hil : (i : Int) ≤ 1024 := by have := h.il; have := h.tl; omega
  have hi0 : (0 : Int) ≤ i := by omega
  clear h
  cases hw : isW ts i x with
  | true =>
    have HI := hid (isW_lt hw)
    rw [hw] at HS
    clear hw
    go_enter Tryz.func110, Tryz.ntmps110
    go_wp2_with (go_at_call 149; refine HS.out.mono ?_; rintro e w1 ⟨rfl, hb⟩; have HB := hid hb; have HQ1 := hid (HQ.out.on hb); have k1 := HQ1.out.cell; have z1 := HQ1.out.frozen; clear hb)
    go_ret
    exact ⟨rfl, HQ1.out.next HI.out, (Kp.of HB.out).trans (Kp.set (T := fun k => k = rb) rfl _)⟩
  | false =>
    rw [hw] at HS
    clear hw
    go_enter Tryz.func110, Tryz.ntmps110
    go_wp2_with (go_at_call 149; refine HS.out.mono ?_; rintro e w1 ⟨rfl, hb⟩; have HB := hid hb; have HQ1 := hid (HQ.out.on hb); clear hb)
    go_ret
    exact ⟨rfl, HQ1.out, Kp.of HB.out⟩
abbrev vNone (_ : World) (_ : Unit) (v : Value) : Prop := v = .tuple #[]
set_option maxRecDepth 100000 in
set_option maxHeartbeats 1000000 in
theorem want_any (h : Rq B ts w rb tv sv o i qs) (x : List UInt8) : Calls Tryz.prog 146 #[dp rb, .string (St x)] w (P1 B ts rb tv sv o qs w vNone (wantS ts x i)) := by
  have HS := hid (skip_any h x)
  clear h
  cases hw : isW ts i x with
  | true =>
    have HR : Hid (wantS ts x i = .ok () (i + 1)) := by show _ = _; unfold wantS; rw [hw]; rfl
    rw [hw] at HS
    clear hw
    go_enter Tryz.func146, Tryz.ntmps146
    go_wp2_with (go_at_call 110; refine HS.out.mono ?_; rintro e w1 ⟨rfl, hq, hk⟩; have HQ1 := hid hq; have HK := hid hk; clear hq hk)
    go_end0
    exact ⟨HK.out, .inr ⟨(), _, _, HR.out, rfl, rfl, HQ1.out⟩⟩
  | false =>
    have HR : Hid (wantS ts x i = .bad i 120) := by show _ = _; unfold wantS; rw [hw]; rfl
    rw [hw] at HS
    clear hw
    go_enter Tryz.func146, Tryz.ntmps146
    go_wp2_with (first
      | (go_at_call 110; refine HS.out.mono ?_; rintro e w1 ⟨rfl, hq, hk⟩; have HQ1 := hid hq; have HK := hid hk; clear hq hk)
      | (go_at_call 145; refine (fail_any HQ1.out 120).mono ?_; rintro e w2 ⟨rfl, he⟩; replace he := he.symm; subst he))
    exact ⟨rfl, HK.out, .inl ⟨_, _, HR.out, rfl⟩⟩
theorem isK_here (ts : List Tp) (i : Nat) (k : Int) (hk : ¬ k = 0) : isK ts i k = decide ((hereS ts i).kind = k) := by
  unfold isK hereS
  cases ts[i]? with
  | none => simp; omega
  | some t => rfl
theorem take_def (ts : List Tp) (k : Int) (i : Nat) : takeS ts k i = if isK ts i k then .ok (hereS ts i) (i + 1) else .bad i 120 := rfl
abbrev vTok (_ : World) (t : Tp) (v : Value) : Prop := v = TkV t
set_option maxRecDepth 100000 in
set_option maxHeartbeats 1000000 in
theorem take_any (h : Rq B ts w rb tv sv o i qs) (k : Int) (hk0 : ¬ k = 0) : Calls Tryz.prog 179 #[dp rb, .int .i64 k] w (P1 B ts rb tv sv o qs w vTok (takeS ts k i)) := by
  have HB0 : Hid (Below w.heap.size w (w.alloc (.cells zTk 85))) := (Below.refl _ _).alloc (Nat.le_refl _) _
  have HZ := hid (alloc_block w (.cells zTk 85))
  have HQ := hid (h.on HB0.out)
  have HH := hid (here_any HQ.out)
  have hil : (i : Int) ≤ 1024 := by have := h.il; have := h.tl; omega
  have hne : ¬ rb = w.heap.size := by have := h.lt; omega
  have HR0 := hid h
  have hki := isK_here ts i k hk0
  have HTk := hid (take_def ts k i)
  have HLt := hid (@isK_lt ts i k)
  generalize hereS ts i = t at *
  generalize hW : w.alloc (.cells zTk 85) = w1 at *
  have HW := hid hW
  clear h hW
  have bk : (t.kind != k) = !(decide (t.kind = k)) := by rw [Bool.eq_iff_iff]; simp
  rw [← hki] at bk
  cases hw : isK ts i k with
  | true =>
    rw [hw] at bk HTk HLt
    clear hki hw
    go_enter Tryz.func179, Tryz.ntmps179
    go_upto_region 1 with fail
    rw [HW.out]
    go_wp2_with (go_at_call 180; refine HH.out.mono ?_; rintro e w2 ⟨rfl, hb⟩; have HB := hid (hb.alloc hb.size (.cells #[.int .i64 t.kind, .string (St t.s), .int .i64 t.n, .int .i64 t.at_] 85)); have HQ2 := hid (HQ.out.on HB.out); have HZ2 := hid (block_on HZ.out HB.out); have k2 := HQ2.out.cell; have z2 := HQ2.out.frozen; have kz := block_cell HZ2.out; have zz := block_frozen HZ2.out; have n1 : ¬ rb = w2.heap.size := (by have := HQ.out.lt; have := hb.size; omega); have n2 : ¬ w.heap.size = w2.heap.size := (by have := lt_of_block HZ.out; have := hb.size; omega); have n3 : ¬ w2.heap.size = w.heap.size := (fun e => n2 e.symm); have n4 : ¬ w.heap.size = rb := (fun e => hne e.symm); clear hb)
    have hq3 := HQ2.out.next (HLt.out trivial)
    obtain ⟨a, b⟩ := Rq.back HR0.out hq3 ((Kp.of (HB0.out.trans (HB.out.mono HB0.out.size))).trans (Kp.set (T := fun k => k = rb) rfl _)) (Kp.set4 w.heap.size w.heap.size (Nat.le_refl _) _ (.int .i64 t.kind) (.string (St t.s)) (.int .i64 t.n) (.int .i64 t.at_))
    refine ret_tok rfl rfl (Bx.set4 ((Kp.set (T := fun k => k = rb) rfl _).blk HZ2.out (fun e => hne e.symm)) _ _ _ _) rfl rfl ⟨b, .inr ⟨t, i + 1, _, HTk.out, rfl, rfl, a⟩⟩
  | false =>
    rw [hw] at bk HTk
    clear hki hw
    go_enter Tryz.func179, Tryz.ntmps179
    go_upto_region 1 with fail
    rw [HW.out]
    go_wp2_with (first
      | (go_at_call 180; refine HH.out.mono ?_; rintro e w2 ⟨rfl, hb⟩; have HB := hid (hb.alloc hb.size (.cells #[.int .i64 t.kind, .string (St t.s), .int .i64 t.n, .int .i64 t.at_] 85)); have HQ2 := hid (HQ.out.on HB.out); clear hb)
      | (go_at_call 145; refine (fail_any HQ2.out 120).mono ?_; rintro e w3 ⟨rfl, he⟩; replace he := he.symm; subst he))
    exact ⟨rfl, Kp.of (HB0.out.trans (HB.out.mono HB0.out.size)), .inl ⟨_, _, HTk.out, rfl⟩⟩
theorem fld0 (t : Tp) (w : World) : (Instr.field 85 (TkV t) 0).run Tryz.prog w = .ok (.int .i64 t.kind) w := by kernel_rfl
theorem fld1 (t : Tp) (w : World) : (Instr.field 85 (TkV t) 1).run Tryz.prog w = .ok (.string (St t.s)) w := by kernel_rfl
theorem fld2 (t : Tp) (w : World) : (Instr.field 85 (TkV t) 2).run Tryz.prog w = .ok (.int .i64 t.n) w := by kernel_rfl
abbrev vStr (_ : World) (s : List UInt8) (v : Value) : Prop := v = .string (St s)
abbrev vInt (_ : World) (n : Int) (v : Value) : Prop := v = .int .i64 n
abbrev vNat (_ : World) (n : Nat) (v : Value) : Prop := v = .int .i64 (n : Int)
theorem P1.bad {α : Type} {val : World → α → Value → Prop} {r : Rs α} {j : Nat} {c : Int} {w' : World} (hk : Kp (fun k => k = rb) w w') (h : r = .bad j c) : P1 B ts rb tv sv o qs w val r (dies (faultV j c)) w' := ⟨hk, .inl ⟨_, _, h, rfl⟩⟩
set_option maxRecDepth 100000 in
set_option maxHeartbeats 1000000 in
theorem name_any (h : Rq B ts w rb tv sv o i qs) : Calls Tryz.prog 147 #[dp rb] w (P1 B ts rb tv sv o qs w vStr (nameS ts i)) := by
  have HT := hid (take_any h 1 (by decide))
  have hf := fld1
  clear h
  go_enter Tryz.func147, Tryz.ntmps147
  go_wp2_with (go_at_call 179; refine HT.out.mono ?_; rintro e w1 ⟨hk, ⟨j, c, hr, rfl⟩ | ⟨t, j, v, hr, rfl, rfl, hq⟩⟩; (focus (go_wp2_with fail; exact ⟨rfl, P1.bad hk (by simp only [nameS, hr, Rs.and])⟩)); have HK := hid hk; have HQ := hid hq; have HR := hid hr; clear hk hq hr)
  go_ret
  exact ⟨HK.out, .inr ⟨t.s, j, _, by simp only [nameS, HR.out, Rs.and], rfl, rfl, HQ.out⟩⟩
set_option maxRecDepth 100000 in
set_option maxHeartbeats 1000000 in
theorem number_any (h : Rq B ts w rb tv sv o i qs) : Calls Tryz.prog 148 #[dp rb] w (P1 B ts rb tv sv o qs w vInt (numS' ts i)) := by
  have HT := hid (take_any h 2 (by decide))
  have hf := fld2
  clear h
  go_enter Tryz.func148, Tryz.ntmps148
  go_wp2_with (go_at_call 179; refine HT.out.mono ?_; rintro e w1 ⟨hk, ⟨j, c, hr, rfl⟩ | ⟨t, j, v, hr, rfl, rfl, hq⟩⟩; (focus (go_wp2_with fail; exact ⟨rfl, P1.bad hk (by simp only [numS', hr, Rs.and])⟩)); have HK := hid hk; have HQ := hid hq; have HR := hid hr; clear hk hq hr)
  go_ret
  exact ⟨HK.out, .inr ⟨t.n, j, _, by simp only [numS', HR.out, Rs.and], rfl, rfl, HQ.out⟩⟩
abbrev VlV (x : Int × Int × List UInt8) : Array Value := #[.int .i64 x.1, .int .i64 x.2.1, .string (St x.2.2), .int .i64 0, .int .i64 0, .int .i64 0, .int .i64 0, .int .i64 0, .int .i64 0, .int .i64 0, .int .i64 0]
abbrev zVl : Array Value := #[.int .i64 0, .int .i64 0, .string ⟨#[]⟩, .int .i64 0, .int .i64 0, .int .i64 0, .int .i64 0, .int .i64 0, .int .i64 0, .int .i64 0, .int .i64 0]
abbrev vVal (_ : World) (x : Int × Int × List UInt8) (v : Value) : Prop := v = .agg (VlV x)
theorem one_val (x : Int × Int × List UInt8) : (VlV x).all (·.oneCell') = true := by simp [Value.oneCell']
/- A struct is stored into a block that is the call's own. -/
theorem store_val {ops : Array Oper} {rest : List Oper} {op : Oper} {a : Act} {w : World} {Q : Exit → Act → World → Prop} (hgd : op.guard = none) (x y : Operand) (ho : op.op = .store 39 x y) {g : Nat} {c : Int × Int × List UInt8} (hx : a.eval x = dp g) (hy : a.eval y = .agg (VlV c)) {old : Array Value} (hg : w.heap[g]? = some (.cells old 39 (0, 0))) (hs : old.size = 11)
    (h : ∀ w', w'.heap[g]? = some (.cells (VlV c) 39 (0, 0)) → Kp (fun k => k = g) w w' → wpList Tryz.prog ops Q rest (a.put op.dst undef) w') : wpList Tryz.prog ops Q (op :: rest) a w :=
  wpList_store_row hgd 39 x y ho hx hy hg size_val (by rw [hs]; rfl) (one_val c) (fun w' h1 h2 _ => h w' h1 h2)
set_option maxRecDepth 100000 in
set_option maxHeartbeats 1000000 in
theorem txt_any (h : Rq B ts w rb tv sv o i qs) : Calls Tryz.prog 252 #[dp rb] w (P1 B ts rb tv sv o qs w vVal (textV ts i)) := by
  have HB0 : Hid (Below w.heap.size w (w.alloc (.cells zVl 39))) := (Below.refl _ _).alloc (Nat.le_refl _) _
  have HZ := hid (alloc_block w (.cells zVl 39))
  have HT := hid (take_any (h.on HB0.out) 3 (by decide))
  have hf := fld1
  have HR0 := hid h
  generalize hW : w.alloc (.cells zVl 39) = w1 at *
  have HW := hid hW
  clear h hW
  go_enter Tryz.func252, Tryz.ntmps252
  go_upto_region 1 with fail
  rw [HW.out]
  go_wp2_with (first
    | (go_at_call 179; refine HT.out.mono ?_; rintro e w2 ⟨hk, ⟨j, c, hr, rfl⟩ | ⟨t, j, v, hr, rfl, rfl, hq⟩⟩; (focus (go_wp2_with fail; exact ⟨rfl, P1.bad ((Kp.of HB0.out).trans hk) (by simp only [textV, hr, Rs.and])⟩)); have HK := hid hk; have HQ := hid hq; have HR := hid hr; clear hk hq hr)
    | (refine store_val (c := (2, 0, t.s)) rfl _ _ rfl rfl rfl (HK.out.blk HZ.out (fun e => by have := HR0.out.lt; omega)) rfl ?_; intro w3 h3 k3; have H3 := hid h3; have K3 := hid k3; clear h3 k3))
  obtain ⟨a, b⟩ := Rq.back HR0.out HQ.out ((Kp.of HB0.out).trans HK.out) (K3.out.imp (fun k _ e => by omega))
  exact ret_val rfl rfl H3.out rfl rfl ⟨b, .inr ⟨(2, 0, t.s), j, _, by simp only [textV, HR.out, Rs.and], rfl, rfl, a⟩⟩
set_option maxRecDepth 100000 in
set_option maxHeartbeats 1000000 in
theorem leave_any (h : Rq B ts w rb tv sv (o + 1) i qs) : Calls Tryz.prog 230 #[dp rb] w fun e w' => e = .returned (.tuple #[]) ∧ Rq B ts w' rb tv sv o i qs ∧ Kp (fun k => k = rb) w w' := by
  have HQ := hid h
  have k1 := h.cell
  have z1 := h.frozen
  have ho : (o : Int) ≤ 16 := by have := h.ol; omega
  have e1 : ((o : Int) + 1) - 1 = o := by omega
  simp only [Int.natCast_add, Int.cast_ofNat_Int] at k1
  clear h
  go_enter Tryz.func230, Tryz.ntmps230
  go_wp2_with fail
  go_end0
  refine ⟨rfl, ?_, Kp.set (T := fun k => k = rb) rfl _⟩
  exact HQ.out.less
/- A bracket or a not: open if it is there and may be. -/
def EnP (B : Nat) (ts : List Tp) (rb : Nat) (tv sv : Value) (o i : Nat) (qs : List Nd) (w : World) (x : List UInt8) (e : Ending) (w' : World) : Prop :=
  Kp (fun k => k = rb) w w' ∧ ((isW ts i x = false ∧ e = .returned (.bool false) ∧ Rq B ts w' rb tv sv o i qs) ∨ (isW ts i x = true ∧ o = 16 ∧ e = dies (faultV i 2)) ∨ (isW ts i x = true ∧ o < 16 ∧ e = .returned (.bool true) ∧ Rq B ts w' rb tv sv (o + 1) (i + 1) qs))
set_option maxRecDepth 100000 in
set_option maxHeartbeats 1000000 in
theorem enter_any (h : Rq B ts w rb tv sv o i qs) (x : List UInt8) : Calls Tryz.prog 229 #[dp rb, .string (St x)] w (EnP B ts rb tv sv o i qs w x) := by
  have HQ := hid h
  have HS := hid (stands_any h x)
  have hil : (i : Int) ≤ 1024 := by have := h.il; have := h.tl; omega
  have hol := h.ol
  clear h
  cases hw : isW ts i x with
  | true =>
    have HI := hid (isW_lt hw)
    have HWx := hid hw
    rw [hw] at HS
    clear hw
    by_cases h16 : o = 16
    · have oI : (16 : Int) ≤ (o : Int) := by omega
      have HO := hid h16
      clear h16 hol
      go_enter Tryz.func229, Tryz.ntmps229
      go_wp2_with (first
        | (go_at_call 149; refine HS.out.mono ?_; rintro e w1 ⟨rfl, hb⟩; have HB := hid hb; have HQ1 := hid (HQ.out.on hb); have k1 := HQ1.out.cell; have z1 := HQ1.out.frozen; clear hb)
        | (go_at_call 145; refine (fail_any HQ1.out 2).mono ?_; rintro e w2 ⟨rfl, he⟩; replace he := he.symm; subst he))
      exact ⟨rfl, Kp.of HB.out, .inr (.inl ⟨HWx.out, HO.out, rfl⟩)⟩
    · have oI : ¬ (16 : Int) ≤ (o : Int) := by omega
      have oJ : (o : Int) < 16 := by omega
      have HO : Hid (o < 16) := by show _ < _; omega
      clear h16 hol
      go_enter Tryz.func229, Tryz.ntmps229
      go_wp2_with (go_at_call 149; refine HS.out.mono ?_; rintro e w1 ⟨rfl, hb⟩; have HB := hid hb; have HQ1 := hid (HQ.out.on hb); have k1 := HQ1.out.cell; have z1 := HQ1.out.frozen; clear hb)
      go_ret
      exact ⟨(Kp.of HB.out).trans ((Kp.set (T := fun k => k = rb) rfl _).trans (Kp.set (T := fun k => k = rb) rfl _)), .inr (.inr ⟨HWx.out, HO.out, rfl, HQ1.out.next2 HI.out HO.out⟩)⟩
  | false =>
    have HWx := hid hw
    rw [hw] at HS
    clear hw
    go_enter Tryz.func229, Tryz.ntmps229
    go_wp2_with (go_at_call 149; refine HS.out.mono ?_; rintro e w1 ⟨rfl, hb⟩; have HB := hid hb; have HQ1 := hid (HQ.out.on hb); clear hb)
    go_ret
    exact ⟨Kp.of HB.out, .inl ⟨HWx.out, rfl, HQ1.out⟩⟩
end
end Go.Proofs.YtmpjmimhoikknaaGreatDoor
namespace Go.Proofs.YtmpjmimhoikknaaGreatDoor
open Go.RowKit Go.Joins

section
variable {B : Nat} {ts : List Tp} {w : World} {rb : Nat} {tv sv : Value} {o i : Nat} {qs : List Nd}
theorem lits_sl {W : World} {rb : Nat} (hr : rb < W.heap.size) (ws : List (List UInt8)) {cs : Array Value} {n : Nat} (hc : cs = (ws.flatMap str1).toArray) (hn : n = ws.length) (hl : ws.length ≤ 1000) : SlAt (fun b => b ≠ rb) str1 1 (W.alloc (.cells cs 9)) (.slice (some ⟨W.heap.size, 0, none⟩) n n) ws := by
  subst hc
  subst hn
  have h := Own.blk (enc := str1) (k := 1) (e := 9) (B := W.heap.size) (w := W.alloc (.cells (ws.flatMap str1).toArray 9)) (xs := ws) (fun _ => rfl) (Nat.le_refl _) (alloc_block W _) (by unfold maxLen; omega)
  exact (h.sl (fun _ => rfl)).imp (fun b hb => by omega)
theorem idx_drop {ts : List Tp} {i : Nat} {ws : List (List UInt8)} {k : Nat} {x : List UInt8} (hx : ws[k]? = some x) (hw : isW ts i x = false) : idxOf ts i (ws.drop k) k = idxOf ts i (ws.drop (k + 1)) (k + 1) := by
  obtain ⟨h1, h2⟩ := List.getElem?_eq_some_iff.1 hx
  rw [List.drop_eq_getElem_cons h1, h2, idxOf, hw]; rfl
theorem idx_at {ts : List Tp} {i : Nat} {ws : List (List UInt8)} {k : Nat} {x : List UInt8} (hx : ws[k]? = some x) (hw : isW ts i x = true) : idxOf ts i (ws.drop k) k = some k := by
  obtain ⟨h1, h2⟩ := List.getElem?_eq_some_iff.1 hx
  rw [List.drop_eq_getElem_cons h1, h2, idxOf, hw]; rfl
set_option maxRecDepth 100000 in
set_option maxHeartbeats 1000000 in
theorem oneOf_any {uv : Value} {ws : List (List UInt8)} (h : Rq B ts w rb tv sv o i qs) (hu : SlAt (fun b => b ≠ rb) str1 1 w uv ws) (hl : ws.length ≤ 1000) : Calls Tryz.prog 228 #[dp rb, uv] w (P1 B ts rb tv sv o qs w vNat (oneOfS ts ws i)) := by
  have HQ := hid h
  have HU := hid hu
  obtain ⟨p, cap, rfl, hc1, hc2⟩ := hu.form
  have HN := hid (rfl : ws.length = ws.length)
  generalize hn : ws.length = n at *
  replace HN := hid hn
  clear h hu hn
  unfold maxLen at hc2
  go_enter Tryz.func228, Tryz.ntmps228
  go_wp2_with fail
  go_loopw [9] (fun x wr => ∃ k : Nat, k ≤ n ∧ x = .int .i64 k ∧ Hid (idxOf ts i ws 0 = idxOf ts i (ws.drop k) k) ∧ Hid (Rq B ts wr rb tv sv o i qs) ∧ Hid (Kp (fun k => k = rb) w wr)) (fun x _ => n - (intOf x).toNat)
  case atStart => exact ⟨0, by omega, rfl, rfl, HQ.out, Kp.refl _ _⟩
  case round =>
    obtain ⟨k, hk, rfl, HI, HQr, HKr⟩ := hrel
    by_cases hlt : k < n
    · obtain ⟨x, hx⟩ : ∃ x, ws[k]? = some x := ⟨ws[k]'(by rw [HN.out]; omega), List.getElem?_eq_getElem _⟩
      obtain ⟨g, og, rfl, hg, hc⟩ := (HU.out.kp HKr.out (fun b hb => hb)).at hx
      have e1 : wr.cell? ⟨g, og + k, none⟩ = some (.string (St x)) := by have := hc 0 _ rfl; simpa using this
      have kI : (k : Int) < n := by omega
      have HX := hid hx
      clear hc hx
      have HS := hid (skip_any HQr.out x)
      cases hw : isW ts i x with
      | true =>
        rw [hw] at HS
        have HR : Hid (oneOfS ts ws i = .ok k (i + 1)) := by show _ = _; unfold oneOfS; rw [HI.out, idx_at HX.out hw]
        clear hw
        go_wp2_with (go_at_call 110; refine HS.out.mono ?_; rintro e w2 ⟨rfl, hq, hk2⟩; have HQ2 := hid hq; have HK2 := hid (HKr.out.trans hk2); clear hq hk2)
        go_ret
        exact ⟨HK2.out, .inr ⟨k, i + 1, _, HR.out, rfl, rfl, HQ2.out⟩⟩
      | false =>
        rw [hw] at HS
        have HI2 : Hid (idxOf ts i ws 0 = idxOf ts i (ws.drop (k + 1)) (k + 1)) := by show _ = _; rw [HI.out, idx_drop HX.out hw]
        clear hw
        go_wp2_with (go_at_call 110; refine HS.out.mono ?_; rintro e w2 ⟨rfl, hq, hk2⟩; have HQ2 := hid hq; have HK2 := hid (HKr.out.trans hk2); clear hq hk2)
        go_roundw
        case rel => exact ⟨k + 1, by omega, by go_num, HI2.out, HQ2.out, HK2.out⟩
        case measure => simp [intOf]; omega
    · have HR : Hid (oneOfS ts ws i = .bad i 120) := by show _ = _; unfold oneOfS; rw [HI.out, List.drop_of_length_le (by have := HN.out; omega)]; rfl
      have kI : ¬ (k : Int) < n := by omega
      go_wp2_with (go_at_call 145; refine (fail_any HQr.out 120).mono ?_; rintro e w2 ⟨rfl, he⟩; replace he := he.symm; subst he)
      exact ⟨rfl, P1.bad HKr.out HR.out⟩
abbrev howC : Array Value := #[.string ⟨#[61]⟩, .string ⟨#[33, 61]⟩, .string ⟨#[60]⟩, .string ⟨#[60, 61]⟩, .string ⟨#[62]⟩, .string ⟨#[62, 61]⟩]
abbrev boolC : Array Value := #[.string ⟨#[102, 97, 108, 115, 101]⟩, .string ⟨#[116, 114, 117, 101]⟩]
abbrev aggC : Array Value := #[.string ⟨#[99, 111, 117, 110, 116]⟩, .string ⟨#[115, 117, 109]⟩, .string ⟨#[109, 105, 110]⟩, .string ⟨#[109, 97, 120]⟩, .string ⟨#[109, 101, 97, 110]⟩, .string ⟨#[109, 101, 114, 103, 101]⟩]
theorem oneOf_lits {W : World} (h : Rq B ts W rb tv sv o i qs) (ws : List (List UInt8)) {cs : Array Value} {n : Nat} (hc : cs = (ws.flatMap str1).toArray) (hn : n = ws.length) (hl : ws.length ≤ 1000) : Calls Tryz.prog 228 #[dp rb, .slice (some ⟨W.heap.size, 0, none⟩) n n] (W.alloc (.cells cs 9)) (P1 B ts rb tv sv o qs (W.alloc (.cells cs 9)) vNat (oneOfS ts ws i)) :=
  oneOf_any (h.on ((Below.refl _ _).alloc (Nat.le_refl _) _)) (lits_sl h.lt ws hc hn hl) hl
abbrev howS (ts : List Tp) (i : Nat) : Rs Int := (oneOfS ts howW i).and fun k j => .ok (1 + (k : Int)) j
set_option maxRecDepth 100000 in
set_option maxHeartbeats 1000000 in
theorem how_any (h : Rq B ts w rb tv sv o i qs) : Calls Tryz.prog 253 #[dp rb] w (P1 B ts rb tv sv o qs w vInt (howS ts i)) := by
  have HO := hid (oneOf_lits h howW (cs := howC) (n := 6) rfl rfl (by decide))
  clear h
  go_enter Tryz.func253, Tryz.ntmps253
  go_wp2_with (go_at_call 228; refine HO.out.mono ?_; rintro e w1 ⟨hk, ⟨j, c, hr, rfl⟩ | ⟨t, j, v, hr, rfl, rfl, hq⟩⟩; (focus (go_wp2_with fail; exact ⟨rfl, P1.bad ((Kp.alloc _ _ _).trans hk) (by simp only [howS, hr, Rs.and])⟩)); have HK := hid ((Kp.alloc _ _ _).trans hk); have HQ := hid hq; have HR := hid hr; have ht : (t : Int) ≤ 6 := (by have := oneOf_lt hr; simp [howW] at this; omega); clear hk hq hr)
  go_ret
  exact ⟨HK.out, .inr ⟨1 + (t : Int), j, _, by simp only [howS, HR.out, Rs.and], rfl, rfl, HQ.out⟩⟩
theorem val_back {w w2 w3 : World} {j : Nat} (HR0 : Rq B ts w rb tv sv o i qs) (hq : Rq B ts w2 rb tv sv o j qs) (hk : Kp (fun k => k = rb) w w2) (k3 : Kp (fun k => k = w.heap.size) w2 w3) : Rq B ts w3 rb tv sv o j qs ∧ Kp (fun k => k = rb) w w3 :=
  Rq.back HR0 hq hk (k3.imp (fun k _ e => by omega))
set_option maxRecDepth 100000 in
set_option maxHeartbeats 1000000 in
theorem value_any (h : Rq B ts w rb tv sv o i qs) : Calls Tryz.prog 254 #[dp rb] w (P1 B ts rb tv sv o qs w vVal (valueS ts i)) := by
  have HB0 : Hid (Below w.heap.size w (w.alloc (.cells zVl 39))) := (Below.refl _ _).alloc (Nat.le_refl _) _
  have HZ := hid (alloc_block w (.cells zVl 39))
  have hf := fld0
  have HQ0 := hid (h.on HB0.out)
  have HH := hid (here_any HQ0.out)
  have HR0 := hid h
  have h2 := isK_here ts i 2 (by decide)
  have h3 := isK_here ts i 3 (by decide)
  generalize hW : w.alloc (.cells zVl 39) = w1 at *
  have HW := hid hW
  clear h hW
  generalize hereS ts i = t at *
  have b2 : (t.kind == 2) = decide (t.kind = 2) := by rw [Bool.eq_iff_iff]; simp
  have b3 : (t.kind == 3) = decide (t.kind = 3) := by rw [Bool.eq_iff_iff]; simp
  rw [← h2] at b2
  rw [← h3] at b3
  clear h2 h3
  cases c2 : isK ts i 2 with
  | true =>
    have C2 := hid c2
    rw [c2] at b2
    clear c2 b3
    go_enter Tryz.func254, Tryz.ntmps254
    go_upto_region 1 with fail
    rw [HW.out]
    go_wp2_with (first
      | (go_at_call 180; refine HH.out.mono ?_; rintro e w2 ⟨rfl, hb⟩; have HQ2 := hid (HQ0.out.on hb); have HB2 := hid (HB0.out.trans (hb.mono HB0.out.size)); have HZ2 := hid (block_on HZ.out hb); clear hb)
      | (go_at_call 148; refine (number_any HQ2.out).mono ?_; rintro e w3 ⟨hk, ⟨j, c, hr, rfl⟩ | ⟨n, j, v, hr, rfl, rfl, hq⟩⟩; (focus (go_wp2_with fail; exact ⟨rfl, P1.bad ((Kp.of HB2.out).trans hk) (by simp [valueS, C2.out, hr, Rs.and])⟩)); have HK := hid hk; have HQ := hid hq; have HR := hid hr; clear hk hq hr)
      | (refine store_val (c := (1, n, [])) rfl _ _ rfl rfl rfl (HK.out.blk HZ2.out (fun e => by have := HR0.out.lt; omega)) rfl ?_; intro w4 h4 k4; have H4 := hid h4; have K4 := hid k4; clear h4 k4))
    obtain ⟨a, b⟩ := val_back HR0.out HQ.out ((Kp.of HB2.out).trans HK.out) K4.out
    exact ret_val rfl rfl H4.out rfl rfl ⟨b, .inr ⟨(1, n, []), j, _, by simp [valueS, C2.out, HR.out, Rs.and], rfl, rfl, a⟩⟩
  | false =>
    have C2 := hid c2
    rw [c2] at b2
    clear c2
    cases c3 : isK ts i 3 with
    | true =>
      have C3 := hid c3
      rw [c3] at b3
      clear c3
      go_enter Tryz.func254, Tryz.ntmps254
      go_upto_region 1 with fail
      rw [HW.out]
      go_wp2_with (first
        | (go_at_call 180; refine HH.out.mono ?_; rintro e w2 ⟨rfl, hb⟩; have HQ2 := hid (HQ0.out.on hb); have HB2 := hid (HB0.out.trans (hb.mono HB0.out.size)); have HZ2 := hid (block_on HZ.out hb); clear hb)
        | (go_at_call 252; refine (txt_any HQ2.out).mono ?_; rintro e w3 ⟨hk, ⟨j, c, hr, rfl⟩ | ⟨n, j, v, hr, rfl, rfl, hq⟩⟩; (focus (go_wp2_with fail; exact ⟨rfl, P1.bad ((Kp.of HB2.out).trans hk) (by simp [valueS, C2.out, C3.out, hr])⟩)); have HK := hid hk; have HQ := hid hq; have HR := hid hr; clear hk hq hr)
        | (refine store_val (c := n) rfl _ _ rfl rfl rfl (HK.out.blk HZ2.out (fun e => by have := HR0.out.lt; omega)) rfl ?_; intro w4 h4 k4; have H4 := hid h4; have K4 := hid k4; clear h4 k4))
      obtain ⟨a, b⟩ := val_back HR0.out HQ.out ((Kp.of HB2.out).trans HK.out) K4.out
      exact ret_val rfl rfl H4.out rfl rfl ⟨b, .inr ⟨n, j, _, by simp [valueS, C2.out, C3.out, HR.out], rfl, rfl, a⟩⟩
    | false =>
      have C3 := hid c3
      rw [c3] at b3
      clear c3
      go_enter Tryz.func254, Tryz.ntmps254
      go_upto_region 1 with fail
      rw [HW.out]
      go_wp2_with (first
        | (go_at_call 180; refine HH.out.mono ?_; rintro e w2 ⟨rfl, hb⟩; have HQ2 := hid (HQ0.out.on hb); have HB2 := hid (HB0.out.trans (hb.mono HB0.out.size)); have HZ2 := hid (block_on HZ.out hb); clear hb)
        | (go_at_call 228; refine (oneOf_lits HQ2.out boolW (cs := boolC) (n := 2) rfl rfl (by decide)).mono ?_; rintro e w3 ⟨hk, ⟨j, c, hr, rfl⟩ | ⟨n, j, v, hr, rfl, rfl, hq⟩⟩; (focus (go_wp2_with fail; exact ⟨rfl, P1.bad ((Kp.of HB2.out).trans ((Kp.alloc _ _ _).trans hk)) (by simp [valueS, C2.out, C3.out, hr, Rs.and])⟩)); have HK := hid ((Kp.alloc _ _ _).trans hk); have HQ := hid hq; have HR := hid hr; clear hk hq hr)
        | (refine store_val (c := (3, (n : Int), [])) rfl _ _ rfl rfl rfl (HK.out.blk HZ2.out (fun e => by have := HR0.out.lt; omega)) rfl ?_; intro w4 h4 k4; have H4 := hid h4; have K4 := hid k4; clear h4 k4))
      obtain ⟨a, b⟩ := val_back HR0.out HQ.out ((Kp.of HB2.out).trans HK.out) K4.out
      exact ret_val rfl rfl H4.out rfl rfl ⟨b, .inr ⟨(3, (n : Int), []), j, _, by simp [valueS, C2.out, C3.out, HR.out, Rs.and], rfl, rfl, a⟩⟩
end
end Go.Proofs.YtmpjmimhoikknaaGreatDoor
