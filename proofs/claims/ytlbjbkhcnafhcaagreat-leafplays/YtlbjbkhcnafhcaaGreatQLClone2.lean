/-
  What Clone of package leaf returns, for all leaves.
-/
import Derived.Test.YtlbjbkhcnafhcaaGreatQLClone
import Derived.Test.YtlbjbkhcnafhcaaGreatP28LFit
namespace Go.Proofs.YtlbjbkhcnafhcaaGreat
open Go.RowKit Go.Sort Go.Shelf Go.Maps

/- A leaf that is being made of another: its block, its dictionary, its map without runs. -/
structure Cb (w0 : World) (P : Nat → Prop) (sc : Value) (room : Int) (n : Nat) (l : List Sm) (wx : World) (b' : Nat) (sv' : Value) (m' sm' : Nat) : Prop where
  blk : wx.heap[b']? = some (.cells #[sc, .int .i64 room, .int .i64 (n : Int), .int .i64 room, sv', .map (some m'), .map (some sm')] 72)
  dn : SN.Dn w0.heap.size P wx sv' m' l
  mp : wx.ownsMap (H := Unit) Tryz.prog 3 pElem sm' 0 (.map [])
  ge : w0.heap.size ≤ sm'
  gb : w0.heap.size ≤ b'
  ne : sm' ≠ m'
  bel : Below w0.heap.size w0 wx
theorem Cb.fin1 {w0 w1 : World} {P : Nat → Prop} {sc : Value} {room : Int} {n : Nat} {l : List Sm} {sv' : Value} {m' : Nat} (hb : Below w0.heap.size w0 w1) (hd : SN.Dn w0.heap.size P w1 sv' m' l) :
    Cb w0 P sc room n l ((w1.alloc (.map #[] 0)).alloc (.cells #[sc, .int .i64 room, .int .i64 (n : Int), .int .i64 room, sv', .map (some m'), .map (some w1.heap.size)] 72)) (w1.heap.size + 1) sv' m' w1.heap.size := by
  have h1 := (Below.refl w1.heap.size w1).alloc (Nat.le_refl _) (.map #[] 0)
  have h2 := h1.alloc h1.size (.cells #[sc, .int .i64 room, .int .i64 (n : Int), .int .i64 room, sv', .map (some m'), .map (some w1.heap.size)] 72)
  have hs := hb.size
  have ha := alloc_block (w1.alloc (.map #[] 0)) (.cells #[sc, .int .i64 room, .int .i64 (n : Int), .int .i64 room, sv', .map (some m'), .map (some w1.heap.size)] 72)
  have e1 : (w1.alloc (.map #[] 0)).heap.size = w1.heap.size + 1 := by simp
  rw [e1] at ha
  refine ⟨ha, hd.on h2, (World.ownsMap_made _ _ _ _).alloc _, hs, by omega, ?_, hb.trans (h2.mono hs)⟩
  obtain ⟨D, hD, _⟩ := hd.map
  have := hD.lt
  omega
theorem Cb.fin2 {w0 wd w1 : World} {P : Nat → Prop} {sc : Value} {room : Int} {n : Nat} {l : List Sm} {sv' : Value} {m' : Nat} (h0 : Below w0.heap.size w0 wd) (hb : Below (wd.alloc (.map #[] 0)).heap.size (wd.alloc (.map #[] 0)) w1) (hd : SN.Dn (wd.alloc (.map #[] 0)).heap.size P w1 sv' m' l) :
    Cb w0 P sc room n l (w1.alloc (.cells #[sc, .int .i64 room, .int .i64 (n : Int), .int .i64 room, sv', .map (some m'), .map (some wd.heap.size)] 72)) w1.heap.size sv' m' wd.heap.size := by
  have hs0 := h0.size
  have e1 : (wd.alloc (.map #[] 0)).heap.size = wd.heap.size + 1 := by simp
  have h1 := (Below.refl wd.heap.size wd).alloc (Nat.le_refl _) (.map #[] 0)
  have hs := hb.size
  have h2 := (Below.refl w1.heap.size w1).alloc (Nat.le_refl _) (.cells #[sc, .int .i64 room, .int .i64 (n : Int), .int .i64 room, sv', .map (some m'), .map (some wd.heap.size)] 72)
  have hd' := hd.on h2
  have hb2 := hb.trans (h2.mono hs)
  refine ⟨alloc_block _ _, hd'.le (by omega), pmap_kp (T := fun _ => False) (World.ownsMap_made _ _ _ _) (Kp.of hb2) id, hs0, by omega, ?_, h0.trans ((h1.trans (hb2.mono (by omega))).mono hs0)⟩
  have := hd.mB
  omega
/- What of it stays while the runs are cloned. -/
structure Cc (B : Nat) (P : Nat → Prop) (sc : Value) (room : Int) (n : Nat) (l : List Sm) (b' : Nat) (sv' : Value) (m' sm' : Nat) (w : World) : Prop where
  blk : w.heap[b']? = some (.cells #[sc, .int .i64 room, .int .i64 (n : Int), .int .i64 room, sv', .map (some m'), .map (some sm')] 72)
  dn : SN.Dn B P w sv' m' l
theorem Cc.kp {B : Nat} {P T : Nat → Prop} {sc : Value} {room : Int} {n : Nat} {l : List Sm} {b' : Nat} {sv' : Value} {m' sm' : Nat} {w w' : World} (h : Cc B P sc room n l b' sv' m' sm' w) (hk : Kp T w w') (ht : ∀ k cs t fz, w.heap[k]? = some (.cells cs t fz) → ¬ T k) (hm : ¬ T m') : Cc B P sc room n l b' sv' m' sm' w' := by
  obtain ⟨hs, ho, hh⟩ := h.dn.row
  exact ⟨hk.blk h.blk (ht _ _ _ _ h.blk), h.dn.kp hk (fun g hg => by obtain ⟨c, f, hc⟩ := own_kind ho hg; exact ht g _ _ _ hc) hm (fun k ⟨_, c, fz, hc⟩ => ht k c _ fz hc)⟩
theorem grown_of {w w' : World} {row : Option Nat} (hb : Below w.heap.size w w') : w.grownBy w' row := ⟨hb.os, hb.tape, hb.output, hb.size, fun i hi _ => hb.block i hi⟩
/- A round: the iterator turns, a run is cloned, the new map takes it. -/
theorem Cc.round {B : Nat} {P : Nat → Prop} {sc : Value} {room : Int} {n : Nat} {l : List Sm} {b' : Nat} {sv' : Value} {m' sm' r xm : Nat} {w w1 w2 w3 : World} {R : List (List Sp)} {left left1 : Lit → Bool} {cnt cnt1 N N' : Nat} {D Do : D1} {f : Nat → Rm} {j : Nat} {q : List Sp} {rm : Rm}
    (hc : Cc B P sc room n l b' sv' m' sm' w) (hcn : Cn (r + 1) P w R left f Do) (hrg : w.ranges Tryz.prog 3 pElem xm r N D left cnt) (hown : w.ownsMap Tryz.prog 3 pElem sm' N' Do)
    (hg1 : w.grownBy w1 (some r)) (hb2 : Below w1.heap.size w1 w2) (hg3 : w2.grownBy w3 (some sm')) (hrg1 : w1.ranges Tryz.prog 3 pElem xm r N D left1 cnt1)
    (h1 : m' ≠ r) (h2 : m' ≠ sm') (h3 : sm' ≠ r) (h4 : xm ≠ sm') (hj : R[j]? = some q) (hl : left (ky j) = true) (hr : RN.Rk w1.heap.size P w2 rm.b rm.sv rm.pv q) (hsz : r + 1 ≤ w1.heap.size) :
    Cc B P sc room n l b' sv' m' sm' w3 ∧ Cn (r + 1) P w3 R (fun z => left z && !z.sameKey (ky j)) (fun i => if i = j then rm else f i) (Do.put (ky j) (.lit (.int .i64 (rm.b : Int)))) ∧ w3.ranges Tryz.prog 3 pElem xm r N D left1 cnt1 := by
  obtain ⟨a, s, e, c, hit⟩ := iter_blk hrg
  have k1 : Kp (fun k => k = r) w w1 := Kp.grown hg1 (fun k e => by cases e; rfl)
  have k3 : Kp (fun k => k = sm') w2 w3 := Kp.grown hg3 (fun k e => by cases e; rfl)
  have off1 : ∀ k cs t fz, w.heap[k]? = some (.cells cs t fz) → ¬ k = r := fun k cs t fz h e => by rw [e, hit] at h; cases h
  have own2 := pmap_kp (T := fun _ => False) (pmap_kp hown k1 h3) (Kp.of hb2) id
  obtain ⟨es, cl, hmb⟩ := pmap_blk own2
  have off3 : ∀ k cs t fz, w2.heap[k]? = some (.cells cs t fz) → ¬ k = sm' := fun k cs t fz h e => by rw [e, hmb] at h; cases h
  have c1 := hc.kp k1 off1 h1
  have c2 := c1.kp (T := fun _ => False) (Kp.of hb2) (fun _ _ _ _ _ => id) id
  have n1 := hcn.kp k1 off1
  have n2 := n1.step hown.isMap hj hb2 hsz hl hr
  refine ⟨c2.kp k3 off3 h2, n2.kp k3 off3, ?_⟩
  exact (hrg1.kept (grown_of (row := none) hb2) (by simp) (by simp)).kept hg3 (fun e => h4 (Option.some.inj e)) (fun e => h3 (Option.some.inj e).symm)
/- The clone as a leaf. -/
theorem Cc.leaf {B0 B : Nat} {P : Nat → Prop} {w0 w : World} {b b' : Nat} {S : List Sc} {room : Int} {x : Lx} {l : List Sm} {R : List (List Sp)} {n : Nat} {sv' : Value} {m' sm' r N : Nat} {left : Lit → Bool} {f : Nat → Rm} {Do : D1}
    (h0 : Lk B0 P w0 b S room x l R n) (hb : Below w0.heap.size w0 w) (hc : Cc B P x.sc room n l b' sv' m' sm' w) (hcn : Cn r P w R left f Do) (hl : ∀ k, left k = false) (hown : w.ownsMap Tryz.prog 3 pElem sm' N Do) (hN : N ≤ l.length) (h1 : B ≤ b') (h2 : B ≤ sm') (h3 : sm' ≠ m') (h4 : B ≤ r) :
    Lk B P w b' S room ⟨x.sc, sv', m', sm', (List.range R.length).map f⟩ l R n := by
  obtain ⟨a1, a2⟩ := hcn.done hl h4
  exact ⟨hc.dn.dk h1 hc.blk, h0.sch.on hb, h2, h3, ⟨Do, hown.mono hN, a1⟩, a2, h0.len⟩
abbrev C012 (b : Nat) (x y z : Value) (w : World) : Prop := w.cell? ⟨b, 0, none⟩ = some x ∧ w.cell? ⟨b, 1, none⟩ = some y ∧ w.cell? ⟨b, 2, none⟩ = some z
theorem c012D {b : Nat} {x y z : Value} {w : World} (h : C012 b x y z w) : C012 b x y z w.drew := h
theorem c012A {b : Nat} {x y z : Value} {w : World} (h : C012 b x y z w) (o : Obj) : C012 b x y z (w.alloc o) := ⟨Lib.cell?_alloc_some _ h.1, Lib.cell?_alloc_some _ h.2.1, Lib.cell?_alloc_some _ h.2.2⟩
theorem c012On {b : Nat} {x y z : Value} {w w' : World} (h : C012 b x y z w) (hb : Below w.heap.size w w') : C012 b x y z w' := ⟨SN.cell_onB h.1 hb, SN.cell_onB h.2.1 hb, SN.cell_onB h.2.2 hb⟩
abbrev C67 (b : Nat) (x y z : Value) (w : World) : Prop := w.cell? ⟨b, 0, none⟩ = some x ∧ w.cell? ⟨b, 1, none⟩ = some y ∧ w.cell? ⟨b, 2, none⟩ = some z
theorem c67Of {b : Nat} {x y z : Value} {w : World} (h : w.heap[b]? = some (.cells #[x, y, z] 67)) : C67 b x y z w := ⟨block_cell h 0, block_cell h 1, block_cell h 2⟩
theorem c67A {b : Nat} {x y z : Value} {w : World} (h : C67 b x y z w) (o : Obj) : C67 b x y z (w.alloc o) := c012A h o
theorem enters24 : ∀ args w, (callFunc 24 args).run Tryz.prog w = .ok (.enter 24 args) w := enters_of Tryz.func24 (by kernel_rfl) rfl
abbrev S2 (b : Nat) (x y z : Value) (c : Nat) (x' y' z' : Value) (w : World) : Prop := C012 b x y z w ∧ C67 c x' y' z' w
theorem s2A {b : Nat} {x y z : Value} {c : Nat} {x' y' z' : Value} {w : World} (h : S2 b x y z c x' y' z' w) (o : Obj) : S2 b x y z c x' y' z' (w.alloc o) := ⟨c012A h.1 o, c67A h.2 o⟩
theorem wpAnyH_imp {P : Program} {ops : Array Oper} {Q : Exit → Act → World → Prop} {md : Region.Mode} {S S' : World → Prop} (h : ∀ w, S' w → S w) : ∀ (fuel : Nat) (listed : Array Bool) (a : Act) (w : World), wpAnyH P md ops Q S' fuel listed a w → wpAnyH P md ops Q S fuel listed a w
  | 0, _, _, _, x => x
  | fuel + 1, _, _, _, x => ⟨x.1, fun i hi => wpOp_mono (fun a' w' h' => ⟨h w' h'.1, wpAnyH_imp h fuel _ a' w' h'.2⟩) (x.2 i hi)⟩
set_option maxRecDepth 100000 in
set_option maxHeartbeats 2000000 in
theorem lclone_any {B : Nat} {P : Nat → Prop} {w : World} {b : Nat} {S : List Sc} {room : Int} {x : Lx} {pts : List Pt} (h : Lf B P w b S room x pts) (hn : pts.length ≤ 1000) :
    Calls Tryz.prog 10 #[dp b] w fun e w' => ∃ b' x', e = .returned (dp b') ∧ Lf w.heap.size P w' b' S room x' pts ∧ Below w.heap.size w w' := by
  obtain ⟨l, R, hl, hi⟩ := h.lk
  have k0 := block_cell hl.dk.blk
  have HL := hid hl
  have HI := hid hi
  have HN : Hid (l.length ≤ 1000) := Nat.le_trans hi.l_le hn
  obtain ⟨D, hD, hA⟩ := hl.map
  obtain ⟨ps, cs, hsc, _⟩ := sc_slice h
  have k00 : w.cell? ⟨b, 0, none⟩ = some (.slice ps S.length cs) := (k0 0).trans (congrArg some hsc)
  have HSC := hid hsc
  clear hsc
  have HD := hid hD
  have HA := hid hA
  have q0 : w.drew.cell? ⟨b, 0, none⟩ = some (.slice ps S.length cs) := k00
  have q1 : w.drew.cell? ⟨b, 1, none⟩ = some (.int .i64 room) := k0 1
  have q2 : w.drew.cell? ⟨b, 2, none⟩ = some (.int .i64 (pts.length : Int)) := k0 2
  have hS0 : C012 b (.slice ps S.length cs) (.int .i64 room) (.int .i64 (pts.length : Int)) w := ⟨k00, k0 1, k0 2⟩
  have hmm := @run_makeMap Tryz.prog
  have K0 := hid k0
  clear h hl hi hD hA k0 k00 q0 q1 q2
  generalize hNN : pts.length = NN at *
  go_enter Tryz.func10, Tryz.ntmps10
  go_wp2_with fail
  go_cut [3] from 6 to 26 (fun cv wx => ∃ b' sv' m' sm', cv = dp b' ∧ Hid (Cb w P (.slice ps S.length cs) room NN l wx b' sv' m' sm'))
  case first =>
    refine wp_region_held_drew (S := C012 b (.slice ps S.length cs) (.int .i64 room) (.int .i64 (NN : Int))) (by kernel_rfl) (c012D hS0) (fun hHeld => ?_)
    refine wpAnyH_take (i := 0) (oi := { dst := some 6, op := Op.move (Operand.tmp 0), type := 25, pos := "leaf.go:102", after := #[], guard := none }) (v := ?_) rfl (by kernel_rfl) (by kernel_rfl) (by kernel_rfl) (fun _ _ _ h => h) (Or.inl ⟨by rfl, ?_⟩) hHeld ?_
    rotate_left
    · intro w hSw
      go_simp
      try (with_reducible rfl)
    simp only [Act.put, List.setIfInBounds_toArray, List.set_cons_zero, List.set_cons_succ]
    refine wpAnyH_take (i := 4) (oi := { dst := some 10, op := Op.move (Operand.tmp 0), type := 25, pos := "leaf.go:102", after := #[], guard := none }) (v := ?_) rfl (by kernel_rfl) (by kernel_rfl) (by kernel_rfl) (fun _ _ _ h => h) (Or.inl ⟨by rfl, ?_⟩) hHeld ?_
    rotate_left
    · intro w hSw
      go_simp
      try (with_reducible rfl)
    simp only [Act.put, List.setIfInBounds_toArray, List.set_cons_zero, List.set_cons_succ]
    refine wpAnyH_take (i := 8) (oi := { dst := some 14, op := Op.move (Operand.tmp 0), type := 25, pos := "leaf.go:102", after := #[], guard := none }) (v := ?_) rfl (by kernel_rfl) (by kernel_rfl) (by kernel_rfl) (fun _ _ _ h => h) (Or.inl ⟨by rfl, ?_⟩) hHeld ?_
    rotate_left
    · intro w hSw
      go_simp
      try (with_reducible rfl)
    simp only [Act.put, List.setIfInBounds_toArray, List.set_cons_zero, List.set_cons_succ]
    refine wpAnyH_take (i := 12) (oi := { dst := some 18, op := Op.move (Operand.tmp 0), type := 25, pos := "leaf.go:102", after := #[], guard := none }) (v := ?_) rfl (by kernel_rfl) (by kernel_rfl) (by kernel_rfl) (fun _ _ _ h => h) (Or.inl ⟨by rfl, ?_⟩) hHeld ?_
    rotate_left
    · intro w hSw
      go_simp
      try (with_reducible rfl)
    simp only [Act.put, List.setIfInBounds_toArray, List.set_cons_zero, List.set_cons_succ]
    refine wpAnyH_take (i := 1) (oi := { dst := some 7, op := Op.nilCheck (Operand.tmp 6), type := 0, pos := "leaf.go:102", after := #[{ on := 0, ground := Ground.data }], guard := none }) (v := ?_) rfl (by kernel_rfl) (by kernel_rfl) (by kernel_rfl) (fun _ _ _ h => h) (Or.inl ⟨by rfl, ?_⟩) hHeld ?_
    rotate_left
    · intro w hSw
      go_simp
      try (with_reducible rfl)
    simp only [Act.put, List.setIfInBounds_toArray, List.set_cons_zero, List.set_cons_succ]
    refine wpAnyH_take (i := 5) (oi := { dst := some 11, op := Op.nilCheck (Operand.tmp 10), type := 0, pos := "leaf.go:102", after := #[{ on := 4, ground := Ground.data }], guard := none }) (v := ?_) rfl (by kernel_rfl) (by kernel_rfl) (by kernel_rfl) (fun _ _ _ h => h) (Or.inl ⟨by rfl, ?_⟩) hHeld ?_
    rotate_left
    · intro w hSw
      go_simp
      try (with_reducible rfl)
    simp only [Act.put, List.setIfInBounds_toArray, List.set_cons_zero, List.set_cons_succ]
    refine wpAnyH_take (i := 9) (oi := { dst := some 15, op := Op.nilCheck (Operand.tmp 14), type := 0, pos := "leaf.go:102", after := #[{ on := 8, ground := Ground.data }], guard := none }) (v := ?_) rfl (by kernel_rfl) (by kernel_rfl) (by kernel_rfl) (fun _ _ _ h => h) (Or.inl ⟨by rfl, ?_⟩) hHeld ?_
    rotate_left
    · intro w hSw
      go_simp
      try (with_reducible rfl)
    simp only [Act.put, List.setIfInBounds_toArray, List.set_cons_zero, List.set_cons_succ]
    refine wpAnyH_take (i := 13) (oi := { dst := some 19, op := Op.nilCheck (Operand.tmp 18), type := 0, pos := "leaf.go:102", after := #[{ on := 12, ground := Ground.data }], guard := none }) (v := ?_) rfl (by kernel_rfl) (by kernel_rfl) (by kernel_rfl) (fun _ _ _ h => h) (Or.inl ⟨by rfl, ?_⟩) hHeld ?_
    rotate_left
    · intro w hSw
      go_simp
      try (with_reducible rfl)
    simp only [Act.put, List.setIfInBounds_toArray, List.set_cons_zero, List.set_cons_succ]
    refine wpAnyH_take (i := 2) (oi := { dst := some 8, op := Op.fieldAddr 72 (Operand.tmp 7) 0, type := 0, pos := "leaf.go:102", after := #[{ on := 1, ground := Ground.data }], guard := none }) (v := ?_) rfl (by kernel_rfl) (by kernel_rfl) (by kernel_rfl) (fun _ _ _ h => h) (Or.inl ⟨by rfl, ?_⟩) hHeld ?_
    rotate_left
    · intro w hSw
      go_simp
      try (with_reducible rfl)
    simp only [Act.put, List.setIfInBounds_toArray, List.set_cons_zero, List.set_cons_succ]
    refine wpAnyH_take (i := 6) (oi := { dst := some 12, op := Op.fieldAddr 72 (Operand.tmp 11) 1, type := 0, pos := "leaf.go:102", after := #[{ on := 5, ground := Ground.data }], guard := none }) (v := ?_) rfl (by kernel_rfl) (by kernel_rfl) (by kernel_rfl) (fun _ _ _ h => h) (Or.inl ⟨by rfl, ?_⟩) hHeld ?_
    rotate_left
    · intro w hSw
      go_simp
      try (with_reducible rfl)
    simp only [Act.put, List.setIfInBounds_toArray, List.set_cons_zero, List.set_cons_succ]
    refine wpAnyH_take (i := 10) (oi := { dst := some 16, op := Op.fieldAddr 72 (Operand.tmp 15) 2, type := 0, pos := "leaf.go:102", after := #[{ on := 9, ground := Ground.data }], guard := none }) (v := ?_) rfl (by kernel_rfl) (by kernel_rfl) (by kernel_rfl) (fun _ _ _ h => h) (Or.inl ⟨by rfl, ?_⟩) hHeld ?_
    rotate_left
    · intro w hSw
      go_simp
      try (with_reducible rfl)
    simp only [Act.put, List.setIfInBounds_toArray, List.set_cons_zero, List.set_cons_succ]
    refine wpAnyH_take (i := 14) (oi := { dst := some 20, op := Op.fieldAddr 72 (Operand.tmp 19) 3, type := 0, pos := "leaf.go:102", after := #[{ on := 13, ground := Ground.data }], guard := none }) (v := ?_) rfl (by kernel_rfl) (by kernel_rfl) (by kernel_rfl) (fun _ _ _ h => h) (Or.inl ⟨by rfl, ?_⟩) hHeld ?_
    rotate_left
    · intro w hSw
      go_simp
      try (with_reducible rfl)
    simp only [Act.put, List.setIfInBounds_toArray, List.set_cons_zero, List.set_cons_succ]
    refine wpAnyH_take (i := 3) (oi := { dst := some 9, op := Op.load 22 (Operand.tmp 8), type := 22, pos := "leaf.go:102", after := #[{ on := 2, ground := Ground.data }], guard := none }) (v := ?_) rfl (by kernel_rfl) (by kernel_rfl) (by kernel_rfl) (fun _ _ _ h => h) (Or.inl ⟨by rfl, ?_⟩) hHeld ?_
    rotate_left
    · intro w hSw
      go_simp
      try (with_reducible rfl)
    simp only [Act.put, List.setIfInBounds_toArray, List.set_cons_zero, List.set_cons_succ]
    refine wpAnyH_take (i := 7) (oi := { dst := some 13, op := Op.load 3 (Operand.tmp 12), type := 3, pos := "leaf.go:102", after := #[{ on := 6, ground := Ground.data }], guard := none }) (v := ?_) rfl (by kernel_rfl) (by kernel_rfl) (by kernel_rfl) (fun _ _ _ h => h) (Or.inl ⟨by rfl, ?_⟩) hHeld ?_
    rotate_left
    · intro w hSw
      go_simp
      try (with_reducible rfl)
    simp only [Act.put, List.setIfInBounds_toArray, List.set_cons_zero, List.set_cons_succ]
    refine wpAnyH_take (i := 11) (oi := { dst := some 17, op := Op.load 3 (Operand.tmp 16), type := 3, pos := "leaf.go:102", after := #[{ on := 10, ground := Ground.data }], guard := none }) (v := ?_) rfl (by kernel_rfl) (by kernel_rfl) (by kernel_rfl) (fun _ _ _ h => h) (Or.inl ⟨by rfl, ?_⟩) hHeld ?_
    rotate_left
    · intro w hSw
      go_simp
      try (with_reducible rfl)
    simp only [Act.put, List.setIfInBounds_toArray, List.set_cons_zero, List.set_cons_succ]
    refine wpAnyH_ready (rs := [15, 18]) (by kernel_rfl) (by simp) ?_
    refine AllReadyH.cons (o := { dst := some 21, op := Op.call { callee := Callee.value (Operand.func 24), args := #[Operand.tmp 20], argTypes := #[67] }, type := 68, pos := "leaf.go:102", after := #[{ on := 14, ground := Ground.data }], guard := none }) rfl (fun K hK => ?_) ?_
    · refine step_callC (v := .pointer (some ⟨b, 3, none⟩)) rfl (.tmp 20) 67 rfl (by simp [Act.eval]) enters24 ?_
      refine (SN.clone_any (HL.out.dk.on (Below.refl w.heap.size w).drew) HN.out).mono ?_
      rintro e w1 ⟨b1, sv1, m1, rfl, hk1, hd1, hb1⟩
      obtain ⟨hs1, ho1, hh1⟩ := hd1.row
      obtain ⟨p1, d1, rfl⟩ := own_formN ho1 hh1.1
      refine ⟨_, rfl, ?_⟩
      have hT : S2 b (.slice ps S.length cs) (.int .i64 room) (.int .i64 (NN : Int)) b1 (.int .i64 room) (.slice p1 l.length d1) (.map (some m1)) w1 := ⟨c012On (c012D hS0) hb1, c67Of hk1⟩
      refine hK.out _ _ hT.1 (fun _ => wpAnyH_imp (S' := S2 b (.slice ps S.length cs) (.int .i64 room) (.int .i64 (NN : Int)) b1 (.int .i64 room) (.slice p1 l.length d1) (.map (some m1))) (fun _ h => h.1) _ _ _ _ ?_)
      try simp only [Act.put, List.setIfInBounds_toArray, List.set_cons_zero, List.set_cons_succ]
      refine wpAnyH_take (i := 16) (oi := { dst := some 22, op := Op.nilCheck (Operand.tmp 21), type := 0, pos := "leaf.go:102", after := #[{ on := 15, ground := Ground.data }], guard := none }) (v := ?_) rfl (by kernel_rfl) (by kernel_rfl) (by kernel_rfl) (fun _ _ _ h => h) (Or.inl ⟨by rfl, ?_⟩) hT ?_
      rotate_left
      · intro w hSw
        go_simp
        try (with_reducible rfl)
      simp only [Act.put, List.setIfInBounds_toArray, List.set_cons_zero, List.set_cons_succ]
      refine wpAnyH_take (i := 17) (oi := { dst := some 23, op := Op.load 67 (Operand.tmp 22), type := 67, pos := "leaf.go:102", after := #[{ on := 16, ground := Ground.data }], guard := none }) (v := ?_) rfl (by kernel_rfl) (by kernel_rfl) (by kernel_rfl) (fun _ _ _ h => h) (Or.inl ⟨by rfl, ?_⟩) hT ?_
      rotate_left
      · intro w hSw
        go_simp
        try (with_reducible rfl)
      simp only [Act.put, List.setIfInBounds_toArray, List.set_cons_zero, List.set_cons_succ]
      refine wpAnyH_ready (rs := [18]) (by kernel_rfl) (by simp) ?_
      refine AllReadyH.cons (o := { dst := some 24, op := Op.makeMap 70 none, type := 70, pos := "leaf.go:102", after := #[], guard := none }) rfl (fun K2 hK2 => ?_) AllReadyH.nil
      go_simp
      refine hK2.out _ _ (s2A hT _) (fun hT2 => ?_)
      try simp only [Act.put, List.setIfInBounds_toArray, List.set_cons_zero, List.set_cons_succ]
      refine wpAnyH_take (i := 19) (oi := { dst := some 25, op := Op.build 72 #[(0, Operand.tmp 9), (1, Operand.tmp 13), (2, Operand.tmp 17), (3, Operand.tmp 23), (4, Operand.tmp 24)], type := 72, pos := "leaf.go:102", after := #[{ on := 3, ground := Ground.data }, { on := 7, ground := Ground.data }, { on := 11, ground := Ground.data }, { on := 17, ground := Ground.data }, { on := 18, ground := Ground.data }], guard := none }) (v := ?_) rfl (by kernel_rfl) (by kernel_rfl) (by kernel_rfl) (fun _ _ _ h => h) (Or.inl ⟨by rfl, ?_⟩) hT2 ?_
      rotate_left
      · intro w hSw
        go_simp
        try (with_reducible rfl)
      simp only [Act.put, List.setIfInBounds_toArray, List.set_cons_zero, List.set_cons_succ]
      refine wpAnyH_ready (rs := [20]) (by kernel_rfl) (by simp) ?_
      refine AllReadyH.cons (o := { dst := some 26, op := Op.box 72 (Operand.tmp 25), type := 25, pos := "leaf.go:102", after := #[{ on := 19, ground := Ground.data }], guard := none }) rfl (fun K3 hK3 => ?_) AllReadyH.nil
      go_simp
      refine hK3.out _ _ (s2A hT2 _) (fun hT3 => ?_)
      try simp only [Act.put, List.setIfInBounds_toArray, List.set_cons_zero, List.set_cons_succ]
      refine wpAnyH_take (i := 21) (oi := { dst := some 3, op := Op.assign (Operand.tmp 26), type := 25, pos := "leaf.go:102", after := #[{ on := 20, ground := Ground.data }, { on := 15, ground := Ground.chain }, { on := 0, ground := Ground.phase }, { on := 1, ground := Ground.phase }, { on := 2, ground := Ground.phase }, { on := 3, ground := Ground.phase }, { on := 4, ground := Ground.phase }, { on := 5, ground := Ground.phase }, { on := 6, ground := Ground.phase }, { on := 7, ground := Ground.phase }, { on := 8, ground := Ground.phase }, { on := 9, ground := Ground.phase }, { on := 10, ground := Ground.phase }, { on := 11, ground := Ground.phase }, { on := 12, ground := Ground.phase }, { on := 13, ground := Ground.phase }, { on := 14, ground := Ground.phase }, { on := 15, ground := Ground.phase }, { on := 16, ground := Ground.phase }, { on := 17, ground := Ground.phase }, { on := 18, ground := Ground.phase }, { on := 19, ground := Ground.phase }, { on := 20, ground := Ground.phase }], guard := none }) (v := ?_) rfl (by kernel_rfl) (by kernel_rfl) (by kernel_rfl) (fun _ _ _ h => h) (Or.inl ⟨by rfl, ?_⟩) hT3 ?_
      rotate_left
      · intro w hSw
        go_simp
        try (with_reducible rfl)
      simp only [Act.put, List.setIfInBounds_toArray, List.set_cons_zero, List.set_cons_succ]
      refine wpAnyH_done (by kernel_rfl) ?_ _
      go_wp2_with fail
      go_meet
      exact ⟨_, _, _, _, rfl, Cb.fin1 ((Below.refl w.heap.size w).drew.trans hb1) hd1⟩
    · refine AllReadyH.cons (o := { dst := some 24, op := Op.makeMap 70 none, type := 70, pos := "leaf.go:102", after := #[], guard := none }) rfl (fun K0 hK0 => ?_) AllReadyH.nil
      go_simp
      refine hK0.out _ _ (c012A (c012D hS0) _) (fun hHeld2 => ?_)
      try simp only [Act.put, List.setIfInBounds_toArray, List.set_cons_zero, List.set_cons_succ]
      refine wpAnyH_ready (rs := [15]) (by kernel_rfl) (by simp) ?_
      refine AllReadyH.cons (o := { dst := some 21, op := Op.call { callee := Callee.value (Operand.func 24), args := #[Operand.tmp 20], argTypes := #[67] }, type := 68, pos := "leaf.go:102", after := #[{ on := 14, ground := Ground.data }], guard := none }) rfl (fun K hK => ?_) AllReadyH.nil
      refine step_callC (v := .pointer (some ⟨b, 3, none⟩)) rfl (.tmp 20) 67 rfl (by simp [Act.eval]) enters24 ?_
      refine (SN.clone_any (HL.out.dk.on ((Below.refl w.heap.size w).drew.alloc (Nat.le_refl _) (.map #[] 0))) HN.out).mono ?_
      rintro e w1 ⟨b1, sv1, m1, rfl, hk1, hd1, hb1⟩
      obtain ⟨hs1, ho1, hh1⟩ := hd1.row
      obtain ⟨p1, d1, rfl⟩ := own_formN ho1 hh1.1
      refine ⟨_, rfl, ?_⟩
      have hT : S2 b (.slice ps S.length cs) (.int .i64 room) (.int .i64 (NN : Int)) b1 (.int .i64 room) (.slice p1 l.length d1) (.map (some m1)) w1 := ⟨c012On hHeld2 hb1, c67Of hk1⟩
      refine hK.out _ _ hT.1 (fun _ => wpAnyH_imp (S' := S2 b (.slice ps S.length cs) (.int .i64 room) (.int .i64 (NN : Int)) b1 (.int .i64 room) (.slice p1 l.length d1) (.map (some m1))) (fun _ h => h.1) _ _ _ _ ?_)
      try simp only [Act.put, List.setIfInBounds_toArray, List.set_cons_zero, List.set_cons_succ]
      refine wpAnyH_take (i := 16) (oi := { dst := some 22, op := Op.nilCheck (Operand.tmp 21), type := 0, pos := "leaf.go:102", after := #[{ on := 15, ground := Ground.data }], guard := none }) (v := ?_) rfl (by kernel_rfl) (by kernel_rfl) (by kernel_rfl) (fun _ _ _ h => h) (Or.inl ⟨by rfl, ?_⟩) hT ?_
      rotate_left
      · intro w hSw
        go_simp
        try (with_reducible rfl)
      simp only [Act.put, List.setIfInBounds_toArray, List.set_cons_zero, List.set_cons_succ]
      refine wpAnyH_take (i := 17) (oi := { dst := some 23, op := Op.load 67 (Operand.tmp 22), type := 67, pos := "leaf.go:102", after := #[{ on := 16, ground := Ground.data }], guard := none }) (v := ?_) rfl (by kernel_rfl) (by kernel_rfl) (by kernel_rfl) (fun _ _ _ h => h) (Or.inl ⟨by rfl, ?_⟩) hT ?_
      rotate_left
      · intro w hSw
        go_simp
        try (with_reducible rfl)
      simp only [Act.put, List.setIfInBounds_toArray, List.set_cons_zero, List.set_cons_succ]
      refine wpAnyH_take (i := 19) (oi := { dst := some 25, op := Op.build 72 #[(0, Operand.tmp 9), (1, Operand.tmp 13), (2, Operand.tmp 17), (3, Operand.tmp 23), (4, Operand.tmp 24)], type := 72, pos := "leaf.go:102", after := #[{ on := 3, ground := Ground.data }, { on := 7, ground := Ground.data }, { on := 11, ground := Ground.data }, { on := 17, ground := Ground.data }, { on := 18, ground := Ground.data }], guard := none }) (v := ?_) rfl (by kernel_rfl) (by kernel_rfl) (by kernel_rfl) (fun _ _ _ h => h) (Or.inl ⟨by rfl, ?_⟩) hT ?_
      rotate_left
      · intro w hSw
        go_simp
        try (with_reducible rfl)
      simp only [Act.put, List.setIfInBounds_toArray, List.set_cons_zero, List.set_cons_succ]
      refine wpAnyH_ready (rs := [20]) (by kernel_rfl) (by simp) ?_
      refine AllReadyH.cons (o := { dst := some 26, op := Op.box 72 (Operand.tmp 25), type := 25, pos := "leaf.go:102", after := #[{ on := 19, ground := Ground.data }], guard := none }) rfl (fun K3 hK3 => ?_) AllReadyH.nil
      go_simp
      refine hK3.out _ _ (s2A hT _) (fun hT3 => ?_)
      try simp only [Act.put, List.setIfInBounds_toArray, List.set_cons_zero, List.set_cons_succ]
      refine wpAnyH_take (i := 21) (oi := { dst := some 3, op := Op.assign (Operand.tmp 26), type := 25, pos := "leaf.go:102", after := #[{ on := 20, ground := Ground.data }, { on := 15, ground := Ground.chain }, { on := 0, ground := Ground.phase }, { on := 1, ground := Ground.phase }, { on := 2, ground := Ground.phase }, { on := 3, ground := Ground.phase }, { on := 4, ground := Ground.phase }, { on := 5, ground := Ground.phase }, { on := 6, ground := Ground.phase }, { on := 7, ground := Ground.phase }, { on := 8, ground := Ground.phase }, { on := 9, ground := Ground.phase }, { on := 10, ground := Ground.phase }, { on := 11, ground := Ground.phase }, { on := 12, ground := Ground.phase }, { on := 13, ground := Ground.phase }, { on := 14, ground := Ground.phase }, { on := 15, ground := Ground.phase }, { on := 16, ground := Ground.phase }, { on := 17, ground := Ground.phase }, { on := 18, ground := Ground.phase }, { on := 19, ground := Ground.phase }, { on := 20, ground := Ground.phase }], guard := none }) (v := ?_) rfl (by kernel_rfl) (by kernel_rfl) (by kernel_rfl) (fun _ _ _ h => h) (Or.inl ⟨by rfl, ?_⟩) hT3 ?_
      rotate_left
      · intro w hSw
        go_simp
        try (with_reducible rfl)
      simp only [Act.put, List.setIfInBounds_toArray, List.set_cons_zero, List.set_cons_succ]
      refine wpAnyH_done (by kernel_rfl) ?_ _
      go_wp2_with fail
      go_meet
      exact ⟨_, _, _, _, rfl, Cb.fin2 (wd := w.drew) (Below.refl w.heap.size w).drew hb1 hd1⟩
  case rest =>
    obtain ⟨b', sv', m', sm', rfl, HC⟩ := hcut
    have HW := hid HC.out.bel
    have c6 : wc.cell? ⟨b, 6, none⟩ = some (.map (some x.sm)) := SN.cell_onB (K0.out 6) HC.out.bel
    have HDc := hid (pmap_kp (T := fun _ => False) HD.out (Kp.of HC.out.bel) id)
    go_wp2_with (first
      | (at_range; refine wpList_range_own _ rfl _ 70 rfl 3 74 law3 Tryz.underlying70 _ x.sm l.length D rfl HDc.out ?_; intro w0 hrg0 hg0 hs0))
    go_frame
    have hbr := HC.out.bel.size
    have hm1 := HC.out.mp.lt
    have hm2 : m' < wc.heap.size := by obtain ⟨D2, hD2, _⟩ := HC.out.dn.map; exact hD2.lt
    have hx1 := HD.out.lt
    have hge := HC.out.ge
    have hgb := HC.out.gb
    have hne := HC.out.ne
    have hrl : x.rs.length = R.length := HL.out.rl.len
    have hRl : R.length = l.length := HL.out.len
    go_loopw [4] (fun _ wr => ∃ (left : Lit → Bool) (cnt : Nat) (Do : D1) (f : Nat → Rm), Hid (wr.ranges Tryz.prog 3 pElem x.sm wc.heap.size l.length D left cnt) ∧ cnt ≤ Maps.size D ∧
        Hid (wr.ownsMap Tryz.prog 3 pElem sm' (Maps.size D - cnt) Do) ∧ Hid (Cn (wc.heap.size + 1) P wr R left f Do) ∧ Hid (∀ z : Int, left (.int .i64 z) = true → 0 ≤ z ∧ z < (x.rs.length : Int)) ∧
        Hid (Cc w.heap.size P (.slice ps S.length cs) room NN l b' sv' m' sm' wr) ∧ Hid (Below w.heap.size w wr))
      (fun _ wr => wr.rangeLeft x.sm wc.heap.size)
    case atStart =>
      have k0 : Kp (fun _ => False) wc w0 := Kp.grown hg0 (fun k e => by cases e)
      refine ⟨_, _, .map [], fun _ => ⟨0, .pointer none, .pointer none⟩, hrg0, Nat.le_refl _, ?_, Cn.start HA.out (by rw [List.length_map]; exact hrl), fun z hz => ?_, (Cc.mk HC.out.blk HC.out.dn).kp k0 (fun _ _ _ _ _ => id) id, HW.out.grown hg0 hbr (fun k e => by cases e)⟩
      · exact (pmap_kp HC.out.mp k0 id).mono (Nat.zero_le _)
      · rw [(HA.out z).1, decide_eq_true_eq, List.length_map] at hz
        exact hz
    case round =>
      obtain ⟨left, cnt, Do, f, HR, hcs, HO, HCn, HIn, HCc, HBl⟩ := hrel
      go_wp2_with (first
        | (at_next; refine next_run _ rfl _ rfl x.sm wc.heap.size l.length D left cnt x.rs rfl HR.out HA.out HIn.out ?_ ?_))
      · intro hl0
        go_wp2
        go_ret
        have hcc := HCc.out
        rw [← HSC.out] at hcc
        exact ⟨b', _, rfl, ⟨l, R, by rw [hNN]; exact Cc.leaf HL.out HBl.out hcc HCn.out hl0 HO.out (by have := HR.out.owns.size_le; omega) hgb hge hne (by omega), HI.out⟩, HBl.out⟩
      · intro j m w1 cnt1 hmj hlj hrg1 hlt hg1 hs1 hen
        have HRg1 := hid hrg1
        have HG1 := hid hg1
        obtain ⟨q, hq⟩ : ∃ q, R[j]? = some q := ⟨_, List.getElem?_eq_getElem (by have := (List.getElem?_eq_some_iff.1 hmj).1; omega)⟩
        have hjl : j < x.rs.length := (List.getElem?_eq_some_iff.1 hmj).1
        have hj1000 : j ≤ 1000 := by have := HN.out; omega
        have hne1 : sm' ≠ wc.heap.size := by omega
        have HB1 : Hid (Below w.heap.size w w1) := HBl.out.grown hg1 HBl.out.size (fun k e => by cases e; exact hbr)
        have HRun := hid ((HL.out.rl.run j m q hmj hq).on (HB1.out.drew))
        have hql : q.length ≤ 1000 := by have := HI.out.q_le hq; omega
        have HK1 : Hid (Kp (fun k => k = wc.heap.size) wr w1) := Kp.grown hg1 (fun k e => by cases e; rfl)
        have HM1 := hid (pmap_kp HO.out HK1.out hne1)
        have hblk1 : w1.heap[b']? = some (.cells #[.slice ps S.length cs, .int .i64 room, .int .i64 (NN : Int), .int .i64 room, sv', .map (some m'), .map (some sm')] 72) := HK1.out.blk HCc.out.blk (fun e => by obtain ⟨a1, a2, a3, a4, hit⟩ := iter_blk HR.out; have hbb := HCc.out.blk; rw [e, hit] at hbb; cases hbb)
        have HBk := hid hblk1
        have g6 : w1.cell? ⟨b', 6, none⟩ = some (.map (some sm')) := block_cell hblk1 6
        have g6d : w1.drew.cell? ⟨b', 6, none⟩ = some (.map (some sm')) := g6
        have hsD := HR.out.owns.size_le
        clear hg1 hrg1 hblk1
        go_upto_region 5 with fail
        go_region_with (first
          | (go_at_call 25; refine (RN.clone_any HRun.out hql).mono ?_; rintro e w2 ⟨b2, sv2, pv2, rfl, hr2, hb2⟩; have HR2 := hid hr2; have HB2 : Hid (Below w1.heap.size w1 w2) := (Below.refl _ _).drew.trans hb2; have HM2 := hid (pmap_kp (T := fun _ => False) HM1.out (Kp.of HB2.out) id); have g62 : w2.cell? ⟨b', 6, none⟩ = some (.map (some sm')) := SN.cell_onB g6 HB2.out; obtain ⟨w3, hrun3, hown3, hg3⟩ := HM2.out.update (t := 70) (e := 74) law3 Tryz.underlying70 (by have := HN.out; unfold maxLen; omega) (key3n hj1000) (pElem_dp b2); have HO3 := hid hown3; have HG3 := hid hg3; clear hown3 hg3 hr2 hb2))
        all_goals
          have hw1 : wc.heap.size + 1 ≤ w1.heap.size := HRg1.out.lt
          obtain ⟨f1, f2, f3⟩ := Cc.round (rm := ⟨b2, sv2, pv2⟩) HCc.out HCn.out HR.out HO.out HG1.out HB2.out HG3.out HRg1.out (by omega) (by omega) hne1 (by omega) hq hlj HR2.out hw1
          have HF1 := hid f1
          have HF2 := hid f2
          have HF3 := hid f3
          have HO4 := hid (HO3.out.mono (n' := Maps.size D - cnt1) (by omega))
          have hb3 := (HB1.out.trans (HB2.out.mono HB1.out.size)).grown HG3.out (Nat.le_trans HB1.out.size HB2.out.size) (fun k e => by cases e; exact hge)
          have HB3 := hid hb3
          have hcs1 : cnt1 ≤ Maps.size D := by omega
          clear f1 f2 f3 hb3
          go_wp2_with fail
          go_roundw
          case rel => exact ⟨_, cnt1, _, _, HF3, hcs1, HO4, HF2, fun z hz => HIn.out z (by simp only [Bool.and_eq_true] at hz; exact hz.1), HF1, HB3⟩
          case measure => rw [HF3.out.left_eq, HR.out.left_eq]; exact hlt
end Go.Proofs.YtlbjbkhcnafhcaaGreat
