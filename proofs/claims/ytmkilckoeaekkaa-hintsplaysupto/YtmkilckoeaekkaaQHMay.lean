/-
  What Might of package hints returns, for any nodes.
-/
import Derived.Test.YtmkilckoeaekkaaQHMight3
import Derived.Laws.MakeOwn
import Derived.Deep.MidRow
import Derived.Deep.WholeRow
namespace Go.Proofs.Ytmkilckoeaekkaa
open Go.RowKit Go.Sort Go.Maps Go.Shelf

/- The first of them told, the others as make left them. -/
def pbl (hs : List Bool) (n : Nat) : Array Value := (hs.map Value.bool ++ List.replicate (n - hs.length) (Value.bool false)).toArray
theorem pbl_set {hs : List Bool} {n : Nat} (h : hs.length < n) (t : Bool) : (pbl hs n).setIfInBounds hs.length (.bool t) = pbl (hs ++ [t]) n := by
  obtain ⟨m, hm⟩ : ∃ m, n - hs.length = m + 1 := ⟨n - hs.length - 1, by omega⟩
  unfold pbl
  rw [hm, show n - (hs ++ [t]).length = m from by simp; omega, List.replicate_succ]
  apply Array.ext'
  simp
theorem made_one (z : Value) (n : Nat) : madeCells #[z] n = (List.replicate n z).toArray := by
  unfold madeCells
  apply Array.ext
  · simp
  · intro i h1 h2; simp [Nat.mod_one]
theorem info4 : (Try.prog.info? 4).map (fun i => (i.zero, i.size, i.bytes)) = some (some (.bool false), 1, 1) := by kernel_rfl
theorem make_bools (n : Nat) (hn : n ≤ 1099511627776) (W : World) : (Instr.makeSlice 81 (.int .i64 (n : Int)) (.int .i64 (n : Int))).run Try.prog W = .ok (.slice (some ⟨W.heap.size, 0, none⟩) n n) (W.alloc (.cells (pbl [] n) 4)) := by
  obtain ⟨i, hi, h0, h1, h2⟩ := info_parts info4
  have h := run_make W 81 4 i _ Try.underlying81 hi h0 .i64 .i64 (n : Int) (n : Int) (by omega) (Int.le_refl _) (by rw [h2]; omega) (by omega)
  rw [h, h1, Int.toNat_natCast, Nat.mul_one]
  show Result.ok _ (W.alloc (.cells (madeCells #[.bool false] n) 4)) = _
  rw [made_one]; rfl
theorem pbl_bl {w : World} {g n : Nat} {hs : List Bool} {fz : Nat × Nat} (h : w.heap[g]? = some (.cells (pbl hs n) 4 fz)) : Bl w g hs := fun j t ht => by
  rw [block_cell h]
  have hj := (List.getElem?_eq_some_iff.1 ht).1
  unfold pbl
  simp [List.getElem?_append_left, hj]
  exact (List.getElem?_eq_some_iff.1 ht).2
theorem pbl_at {hs : List Bool} {n k : Nat} (hk : hs.length = k) (hn : k < n) : (pbl hs n)[k]? = some (.bool false) := by
  unfold pbl
  subst hk
  obtain ⟨m, hm⟩ : ∃ m, n - hs.length = m + 1 := ⟨n - hs.length - 1, by omega⟩
  rw [hm, List.replicate_succ]
  simp
theorem might_at {w : World} {m C : Nat} {x : Ix} {nm : ByteArray} {q : Nd} {l : List Int} {Q : Nat → Prop} {may : List Bool} {g cap k : Nat} (hm : Fm w m C (x.bits nm)) (hs : q.s.size ≤ maxLen) (hv : q.v.s.size ≤ 562949953421312) (hl : SlAt Q int1 1 w q.lv l) (hb : Bl w g may) (hk : may.length = k) : Calls Try.prog 28 #[mp m, .agg q.cells.toArray, .slice (some ⟨g, 0, none⟩) k cap] w (MightP w x nm q l may) := by
  subst hk
  exact might_any hm hs hv hl hb
/- A query's nodes, with those that they name. -/
structure Qn (Q : Nat → Prop) (w : World) (v : Value) (ns : List (Nd × List Int)) : Prop where
  sl : SlAt Q (fun x => x.1.cells) 19 w v ns
  each : ∀ x ∈ ns, x.1.s.size ≤ maxLen ∧ x.1.v.s.size ≤ 562949953421312 ∧ SlAt Q int1 1 w x.1.lv x.2 ∧ (∃ p n c, x.1.nv = .slice p n c) ∧ ∃ p n c, x.1.gv = .slice p n c
  len : ns.length ≤ 1000000000000
theorem Qn.kp {Q T : Nat → Prop} {w w' : World} {v : Value} {ns : List (Nd × List Int)} (h : Qn Q w v ns) (hk : Kp T w w') (ht : ∀ k, Q k → ¬ T k) : Qn Q w' v ns :=
  ⟨h.sl.kp hk ht, fun x hx => ⟨(h.each x hx).1, (h.each x hx).2.1, (h.each x hx).2.2.1.kp hk ht, (h.each x hx).2.2.2⟩, h.len⟩
theorem Qn.on {Q : Nat → Prop} {w w' : World} {v : Value} {ns : List (Nd × List Int)} (h : Qn Q w v ns) (hb : Below w.heap.size w w') : Qn Q w' v ns := h.kp (T := fun _ => False) (Kp.of hb) (fun _ _ => id)
def qs (ns : List (Nd × List Int)) : List Nq := ns.map fun x => x.1.q x.2
theorem mights_len (x : Ix) (nm : ByteArray) (l : List Nq) : (mights KK x nm l).length = l.length := by
  unfold mights; rw [mayAll_len]; simp
/- What stays while one node is told. -/
structure Mq (w : World) (g n : Nat) (hs : List Bool) (wr : World) : Prop where
  blk : wr.heap[g]? = some (.cells (pbl hs n) 4)
  bel : Below w.heap.size w wr
theorem node_load {Q : Nat → Prop} {w : World} {p : Option Addr} {n c : Nat} {ns : List (Nd × List Int)} (h : SlAt Q (fun x => x.1.cells) 19 w (.slice p n c) ns) {k : Nat} {y : Nd × List Int} (hy : ns[k]? = some y) :
    ∃ b o, p = some ⟨b, o, none⟩ ∧ w.rangeAt b (o + k * 19) y.1.cells := by
  obtain ⟨b, o, hp, _, hc⟩ := h.at hy
  exact ⟨b, o, hp, hc⟩
theorem size63 : (Try.prog.info? 63).map (·.size) = some 19 := by kernel_rfl
theorem row63 : ∃ d, Try.prog.underlying 63 = some d ∧ d.isRow = true := ⟨_, Try.underlying63, rfl⟩
theorem run_node {b o : Nat} {q : Nd} {w : World} (h : w.rangeAt b o q.cells) : (Instr.loadAt 63 (.pointer (some ⟨b, o, none⟩))).run Try.prog w = .ok (.agg q.cells.toArray) w := by
  obtain ⟨d, hd, hr⟩ := row63
  exact run_loadAt_mid w b o 63 q.cells d h hd hr size63
theorem load_node {ops : Array Oper} {rest : List Oper} {op : Oper} {a : Act} {w : World} {Q : Exit → Act → World → Prop} (hgd : op.guard = none) (x : Operand) (ho : op.op = .load 63 x) {b o : Nat} {q : Nd} (hx : a.eval x = .pointer (some ⟨b, o, none⟩)) (h : w.rangeAt b o q.cells)
    (hK : wpList Try.prog ops Q rest (a.put op.dst (.agg q.cells.toArray)) w) : wpList Try.prog ops Q (op :: rest) a w := by
  obtain ⟨d, hd, hr⟩ := row63
  exact wpList_load_mid hgd 63 x ho b o hx q.cells d h hd hr size63 hK
abbrev NdAt (nb : Nat) (q : Nd) (W : World) : Prop := ∀ o, W.cell? ⟨nb, o, none⟩ = (NdC q)[o]?
theorem ndD {nb : Nat} {q : Nd} {W : World} (h : NdAt nb q W) : NdAt nb q W.drew := h
theorem ndS {nb : Nat} {q : Nd} {W : World} {g k : Nat} {v : Value} (hn : nb ≠ g) (h : NdAt nb q W) : NdAt nb q (W.setCell ⟨g, k, none⟩ v) := fun o => (World.cell?_of_block (a := ⟨nb, o, none⟩) (Below.heap_setCell _ _ _ _ hn)).trans (h o)
theorem one_node {q : Nd} (h1 : q.lv.oneCell' = true) (h2 : q.nv.oneCell' = true) (h3 : q.gv.oneCell' = true) : q.cells.toArray.all (·.oneCell') = true := by
  apply all_oneCell_toArray
  intro v hv
  simp [Nd.cells] at hv
  rcases hv with rfl | rfl | rfl | rfl | rfl | rfl | rfl | rfl | rfl | rfl | rfl | rfl | rfl | rfl | rfl | rfl | rfl | rfl | rfl <;> first | rfl | assumption
theorem store_node {ops : Array Oper} {rest : List Oper} {op : Oper} {a : Act} {W : World} {Q : Exit → Act → World → Prop} (hgd : op.guard = none) (x y : Operand) (ho : op.op = .store 63 x y) {c : Array Value} {q : Nd} (hx : a.eval x = .pointer (some ⟨W.heap.size, 0, none⟩)) (hy : a.eval y = .agg q.cells.toArray)
    (hc : c.size = 19) (h1 : q.cells.toArray.all (·.oneCell') = true) (h : wpList Try.prog ops Q rest (a.put op.dst undef) (W.alloc (.cells q.cells.toArray 63))) : wpList Try.prog ops Q (op :: rest) a (W.alloc (.cells c 63)) := by
  refine wpList_plain hgd fun _ hK => ?_
  unfold Oper.wp execOp
  simp only [ho, hx, hy, Instr.storeAt, Instr.sureAddr, Sem.run_bind, Sem.run_pure, Result.andThen_ok, run_storeVar_new W 63 c q.cells.toArray size63 hc h1]
  exact hK _ _ h
set_option maxRecDepth 100000 in
set_option maxHeartbeats 4000000 in
theorem Might_any {B M : Nat} {w : World} {b : Nat} {x : Ix} {T Q : Nat → Prop} {v : Value} {ns : List (Nd × List Int)} (h : Hx B M w b x T) (hq : Qn Q w v ns) {nm : ByteArray} (hn : nm.size ≤ maxLen) {i : Int} (hi : -9223372036854775808 ≤ i ∧ i ≤ 9223372036854775807) :
    Calls Try.prog 18 #[dp b, .string nm, .agg #[v], .int .i64 i] w fun e w' => e = .returned (.bool (might KK x nm (qs ns) i)) ∧ Below w.heap.size w w' := by
  obtain ⟨mo, f, c, N, hk, h2, h3, rfl⟩ := h
  have HB : Hid (Below w.heap.size w (w.alloc (.cells #[v] 26))) := (Below.refl _ _).alloc (Nat.le_refl _) _
  have k1 : ∀ o, (w.alloc (.cells #[v] 26)).cell? ⟨w.heap.size, o, none⟩ = #[v][o]? := block_cell (alloc_block _ _)
  have hk1 := hk.on HB.out
  have HQ := hid (hq.on HB.out)
  have hz : w.heap.size < (w.alloc (.cells #[v] 26)).heap.size := by simp
  generalize hW : w.alloc (.cells #[v] 26) = w1 at *
  have HW := hid hW
  obtain ⟨p, cp, rfl, hc1, hc2⟩ := hq.sl.form
  have hlen := hq.len
  have hql : (qs ns).length = ns.length := by simp [qs]
  clear hW hk h3 hq
  have k0 : ∀ o, w1.cell? ⟨b, o, none⟩ = #[mkM mo][o]? := hk1.cell
  have hlk : (Instr.lookup 66 (mkM mo) (.string nm) true).run Try.prog w1 = .ok (.tuple #[if x.seen nm = true then mp (f nm) else .map none, .bool (x.seen nm)]) w1 := by
    cases mo with
    | none =>
      have q := look_none (w := w1) true hn
      rw [if_pos rfl] at q
      rw [hk1.nil rfl nm, if_neg (by simp)]; exact q
    | some m => exact hk1.lookOk hn
  generalize mkM mo = mv0 at *
  cases hx : x.seen nm with
  | false =>
    have e0 : might KK x nm (qs ns) i = false := by unfold might; rw [hx]; rfl
    rw [e0]
    rw [hx, if_neg (by simp)] at hlk
    clear hk1 e0 hx
    go_enter Try.func18, Try.ntmps18
    go_upto_region 1 with fail
    rw [HW.out]
    go_wp2
    go_ret
    exact ⟨rfl, HB.out⟩
  | true =>
    rw [hx, if_pos rfl] at hlk
    obtain ⟨-, hfm⟩ := hk1.inn nm hx
    have HF := hid hfm
    clear hk1 hfm
    generalize f nm = fm at *
    by_cases hin : 0 ≤ i ∧ i < (ns.length : Int)
    · obtain ⟨hi0, hi1⟩ := hin
      obtain ⟨n, rfl⟩ : ∃ n : Nat, i = (n : Int) := ⟨i.toNat, by omega⟩
      obtain ⟨r, hr⟩ : ∃ r, might KK x nm (qs ns) (n : Int) = r := ⟨_, rfl⟩
      rw [hr]
      have HR := hid hr
      clear hr
      have hmk : ∀ W : World, (Instr.makeSlice 81 (.int .i64 ((n : Int) + 1)) (.int .i64 ((n : Int) + 1))).run Try.prog W = .ok (.slice (some ⟨W.heap.size, 0, none⟩) (n + 1) (n + 1)) (W.alloc (.cells (pbl [] (n + 1)) 4)) := fun W => by
        have := make_bools (n + 1) (by omega) W
        rwa [show (((n + 1 : Nat) : Nat) : Int) = (n : Int) + 1 by omega] at this
      have HH := hid (alloc_block w1 (.cells (pbl [] (n + 1)) 4))
      have HB2 : Hid (Below w.heap.size w (w1.alloc (.cells (pbl [] (n + 1)) 4))) := below_on HB.out ((Below.refl _ _).alloc (Nat.le_refl _) _)
      unfold maxLen at hc2
      have hnl : n < ns.length := by omega
      have HNl := hid hnl
      have HX := hid hx
      have HQl := hid hql
      clear hx hql hnl
      generalize hln : ns.length = ln at *
      have HLn := hid hln
      clear hln
      have hd1 : decide ((n : Int) < 0) = false := decide_eq_false (by omega)
      have hd2 : decide (ln ≤ n) = false := decide_eq_false (by have := HNl.out; omega)
      go_enter Try.func18, Try.ntmps18
      go_upto_region 1 with fail
      rw [HW.out]
      go_wp2_with fail
      go_loopw [43] (fun i wr => ∃ k : Nat, k ≤ n + 1 ∧ i = .int .i64 k ∧ Hid (Mq w1 w1.heap.size (n + 1) (mights KK x nm ((qs ns).take k)) wr)) (fun i _ => n + 1 - (intOf i).toNat)
      case atStart => exact ⟨0, by omega, rfl, ⟨HH.out, (Below.refl _ _).alloc (Nat.le_refl _) _⟩⟩
      case round =>
        clear HH HB2
        obtain ⟨k, hk, rfl, HMq⟩ := hrel
        by_cases hlt : k < n + 1
        · obtain ⟨y, hy⟩ : ∃ y, ns[k]? = some y := ⟨ns[k]'(by rw [HLn.out]; have := HNl.out; omega), List.getElem?_eq_getElem _⟩
          obtain ⟨bn, on, rfl, hcn⟩ := node_load (HQ.out.sl.on HMq.out.bel) hy
          obtain ⟨q, l⟩ := y
          obtain ⟨hs1, hs2, hl1, ⟨p2, n2, c2, e2⟩, p3, n3, c3, e3⟩ := HQ.out.each _ (List.mem_of_getElem? hy)
          obtain ⟨p1, c1, e1, -, -⟩ := hl1.form
          simp only at e1 e2 e3 hl1 hs1 hs2 hcn
          have H1 := hid (one_node (q := q) (by rw [e1]; rfl) (by rw [e2]; rfl) (by rw [e3]; rfl))
          clear e1 e2 e3
          have HL := hid hl1
          have HS1 := hid hs1
          have HS2 := hid hs2
          have hql : (qs ns)[k]? = some (q.q l) := by unfold qs; rw [List.getElem?_map, hy]; rfl
          have HT := hid (mights_take KK x nm (qs ns) hql)
          have HLm : Hid ((mights KK x nm ((qs ns).take k)).length = k) := by show _ = _; rw [mights_len, List.length_take, HQl.out]; have := HNl.out; omega
          obtain ⟨hs, hhs⟩ : ∃ hs, mights KK x nm ((qs ns).take k) = hs := ⟨_, rfl⟩
          rw [hhs] at HT HLm HMq
          have HHs := hid hhs
          have HCn := hid hcn
          clear hhs hql hl1 hs1 hs2 hy hcn
          go_wp2_with (first
            | (refine load_node (q := q) rfl _ rfl rfl HCn.out ?_)
            | (refine store_node (q := q) rfl _ _ rfl rfl rfl rfl H1.out ?_))
          go_frame
          have hS0 : (wr.alloc (.cells q.cells.toArray 63)).rangeAt wr.heap.size 0 q.cells := fun j u hu => by rw [Nat.zero_add, block_cell (alloc_block _ _)]; simpa using hu
          have HMa : Hid (Mq w1 w1.heap.size (n + 1) hs (wr.alloc (.cells q.cells.toArray 63))) := ⟨block_on HMq.out.blk ((Below.refl _ _).alloc (Nat.le_refl _) _), below_on HMq.out.bel ((Below.refl _ _).alloc (Nat.le_refl _) _)⟩
          have hsz : wr.heap.size < (wr.alloc (.cells q.cells.toArray 63)).heap.size := by simp
          have HZ := hid hsz
          have hgn : wr.heap.size ≠ w1.heap.size := by have := lt_of_block HMq.out.blk; omega
          have HGn := hid hgn
          clear HMq HCn hsz hgn
          generalize wr.alloc (.cells q.cells.toArray 63) = W2 at *
          generalize wr.heap.size = nb at *
          have i1 : (0 : Int) ≤ (k : Int) := by omega
          have i2 : (k : Int) < (n : Int) + 1 := by omega
          have i3 : (k : Int) ≤ (n : Int) + 1 := by omega
          have i4 : k ≤ n + 1 := by omega
          refine wp_region_held_drew (S := fun W => W.rangeAt nb 0 q.cells) (by kernel_rfl) ((World.rangeAt_drew _ _ _ _).2 hS0) (fun hHeld => ?_)
          refine wpAnyH_take (i := 0) (v := ?_) rfl (by kernel_rfl) (by kernel_rfl) (by kernel_rfl) (fun _ _ _ h => h) (Or.inl ⟨by rfl, ?_⟩) hHeld ?_
          rotate_left
          · intro w hSw
            go_simp
            try (with_reducible rfl)
          go_frame
          refine wpAnyH_take (i := 1) (v := ?_) rfl (by kernel_rfl) (by kernel_rfl) (by kernel_rfl) (fun _ _ _ h => h) (Or.inl ⟨by rfl, ?_⟩) hHeld ?_
          rotate_left
          · intro w hSw
            go_simp
            try (with_reducible rfl)
          go_frame
          refine wpAnyH_take (i := 2) (v := ?_) rfl (by kernel_rfl) (by kernel_rfl) (by kernel_rfl) (fun _ _ _ h => h) (Or.inl ⟨by rfl, ?_⟩) hHeld ?_
          rotate_left
          · intro w hSw
            go_simp
            try (with_reducible rfl)
          go_frame
          refine wpAnyH_take (i := 3) (v := .agg q.cells.toArray) rfl (by kernel_rfl) (by kernel_rfl) (by kernel_rfl) (fun _ _ _ h => h) (yieldsIf_load_mid (by rfl) 63 (.tmp 13) rfl nb 0 rfl q.cells _ (fun _ h => h) Try.underlying63 rfl size63) hHeld ?_
          go_frame
          refine wpAnyH_take (i := 4) (v := ?_) rfl (by kernel_rfl) (by kernel_rfl) (by kernel_rfl) (fun _ _ _ h => h) (Or.inl ⟨by rfl, ?_⟩) hHeld ?_
          rotate_left
          · intro w hSw
            go_simp
            try (with_reducible rfl)
          go_frame
          refine wpAnyH_take (i := 5) (v := ?_) rfl (by kernel_rfl) (by kernel_rfl) (by kernel_rfl) (fun _ _ _ h => h) (Or.inl ⟨by rfl, ?_⟩) hHeld ?_
          rotate_left
          · intro w hSw
            go_simp
            try (with_reducible rfl)
          go_frame
          refine wpAnyH_take (i := 6) (v := ?_) rfl (by kernel_rfl) (by kernel_rfl) (by kernel_rfl) (fun _ _ _ h => h) (Or.inl ⟨by rfl, ?_⟩) hHeld ?_
          rotate_left
          · intro w hSw
            go_simp
            try (with_reducible rfl)
          go_frame
          refine wpAnyH_ready (rs := [7]) (by kernel_rfl) (by simp) ?_
          refine AllReadyH.cons rfl (fun K hK => ?_) AllReadyH.nil
          refine step_call3 (v := mp fm) (v2 := .agg q.cells.toArray) (v3 := .slice (some ⟨w1.heap.size, 0, none⟩) k (n + 1)) rfl (.tmp 50) (.tmp 51) (.tmp 54) 70 63 81 rfl (by simp [Act.eval]) (by simp [Act.eval]) (by simp [Act.eval]) enters28 ?_
          refine (might_at (q := q) (l := l) (x := x) (nm := nm) (may := hs) (HF.out.kp (T := fun _ => False) (Kp.of HMa.out.bel.drew) id) HS1.out HS2.out (HL.out.on HMa.out.bel.drew) (pbl_bl HMa.out.blk) HLm.out).mono ?_
          rintro e w3 ⟨rfl, hb3⟩
          have HB3 : Hid (Below W2.heap.size W2 w3) := (Below.refl _ _).drew.trans hb3
          have hS3 : w3.rangeAt nb 0 q.cells := fun j u hu => (HB3.out.cell (p := ⟨nb, 0 + j, none⟩) HZ.out).trans (hS0 j u hu)
          have hbk := block_on HMa.out.blk HB3.out
          have HBk := hid hbk
          have f3 := block_frozen hbk k
          have c3 := (block_cell hbk k).trans (pbl_at HLm.out hlt)
          clear hb3 hbk
          generalize hr1 : mayOne KK x nm hs (q.q l) = r1 at *
          have HR1 := hid hr1
          clear hr1
          refine ⟨_, rfl, ?_⟩
          refine hK.out _ _ hS3 (fun hT => ?_)
          go_frame
          refine wpAnyH_take (i := 8) (v := ?_) rfl (by kernel_rfl) (by kernel_rfl) (by kernel_rfl) (fun _ _ _ h => h) (Or.inl ⟨by rfl, ?_⟩) hT ?_
          rotate_left
          · intro w hSw
            go_simp
            try (with_reducible rfl)
          go_frame
          refine wpAnyH_ready (rs := [9]) (by kernel_rfl) (by simp) ?_
          refine AllReadyH.cons rfl (fun K3 hK3 => ?_) AllReadyH.nil
          go_simp
          refine hK3.out _ _ (fun j u hu => (World.cell?_of_block (a := ⟨nb, 0 + j, none⟩) (Below.heap_setCell _ _ _ _ HGn.out)).trans (hS3 j u hu)) (fun _ => ?_)
          refine wpAnyH_done (by kernel_rfl) ?_ _
          clear hS3 hS0 hT hHeld
          go_wp2
          go_roundw
          case rel =>
            refine ⟨k + 1, by omega, by go_num, ?_⟩
            show Mq _ _ _ _ _
            rw [HT.out]
            refine ⟨?_, ?_⟩
            · have := block_set HBk.out k (.bool r1)
              rw [← HLm.out, pbl_set (by rw [HLm.out]; exact hlt)] at this
              rw [← HLm.out]
              exact this
            · exact (below_on HMa.out.bel HB3.out).setCell (Nat.le_refl _) _
          case measure => simp [intOf]; omega
        · obtain rfl : k = n + 1 := by omega
          have HTk : Hid ((mights KK x nm ((qs ns).take (n + 1))).length = n + 1) := by show _ = _; rw [mights_len, List.length_take, HQl.out]; have := HNl.out; omega
          have hr1 : (mights KK x nm ((qs ns).take (n + 1)))[n]? = some r := by
            have h1 := HR.out
            unfold might at h1
            rw [HX.out, if_pos ⟨by omega, by rw [HQl.out]; have := HNl.out; omega⟩, Int.toNat_natCast, mights_get KK x nm (qs ns) (show n < n + 1 by omega) (by rw [HQl.out]; have := HNl.out; omega)] at h1
            have h2 := HTk.out
            rw [List.getElem?_eq_getElem (by omega)]
            rw [List.getD_eq_getElem?_getD, List.getElem?_eq_getElem (by omega)] at h1
            simpa using h1
          have c3 := pbl_bl HMq.out.blk n r hr1
          clear hr1
          go_wp2
          go_ret
          exact ⟨rfl, below_on HB.out HMq.out.bel⟩
    · have e0 : might KK x nm (qs ns) i = true := by unfold might; rw [hx, hql, if_neg hin]; rfl
      rw [e0]
      clear e0 hx HF
      unfold maxLen at *
      generalize ns.length = ln at *
      by_cases hneg : i < 0
      · go_enter Try.func18, Try.ntmps18
        go_upto_region 1 with fail
        rw [HW.out]
        go_wp2
        go_ret
        exact ⟨rfl, HB.out⟩
      · have hge : (ln : Int) ≤ i := by omega
        go_enter Try.func18, Try.ntmps18
        go_upto_region 1 with fail
        rw [HW.out]
        go_wp2
        go_ret
        exact ⟨rfl, HB.out⟩
end Go.Proofs.Ytmkilckoeaekkaa
