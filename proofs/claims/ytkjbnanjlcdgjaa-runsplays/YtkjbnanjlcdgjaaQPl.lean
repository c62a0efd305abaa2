/-
  The run and the reference's beside each other: what each call answers of both, and what it leaves.
-/
import Derived.Test.YtkjbnanjlcdgjaaQLaw
import Derived.Test.YtkjbnanjlcdgjaaQRClone
import Derived.Test.YtkjbnanjlcdgjaaQRadd
namespace Go.Proofs.Ytkjbnanjlcdgjaa
open Go.RowKit Go.Sort Go.Shelf

/- The run and the reference's beside each other. -/
structure Pl (B : Nat) (P : Nat → Prop) (w : World) (b y : Nat) (F G : List Sp) : Prop where
  st : ∃ sv pv yv, Rk B P w b sv pv F ∧ Ry B P w y yv G ∧ ∀ k, Tr b sv pv k → ¬ Ty y yv k
theorem Pl.on {B : Nat} {P : Nat → Prop} {w w' : World} {b y : Nat} {F G : List Sp} (h : Pl B P w b y F G) (hb : Below w.heap.size w w') : Pl B P w' b y F G := by
  obtain ⟨sv, pv, yv, h1, h2, h3⟩ := h.st
  exact ⟨sv, pv, yv, h1.on hb, h2.on hb, h3⟩
theorem Pl.P {B : Nat} {P P' : Nat → Prop} {w : World} {b y : Nat} {F G : List Sp} (h : Pl B P w b y F G) (hp : ∀ k, k < w.heap.size → P k → P' k) : Pl B P' w b y F G := by
  obtain ⟨sv, pv, yv, h1, h2, h3⟩ := h.st
  exact ⟨sv, pv, yv, h1.P hp, h2.P hp, h3⟩
/- A block of values that is none of theirs may be written. -/
theorem Pl.kp {B g : Nat} {P : Nat → Prop} {w w' : World} {b y : Nat} {F G : List Sp} {cs : Array Value} {fz : Nat × Nat} (h : Pl B P w b y F G) (hg : w.heap[g]? = some (.cells cs 36 fz)) (hP : ¬ P g) (hk : Kp (fun x => x = g) w w') : Pl B P w' b y F G := by
  obtain ⟨sv, pv, yv, h1, h2, h3⟩ := h.st
  exact ⟨sv, pv, yv, h1.kp hk (fun k ht e => h1.T_not hg (by decide) (by decide) (by decide) (by rw [← e]; exact ht)) (fun k ht e => hP (by rw [← e]; exact ht.1)), h2.kp hk (fun k ht e => h2.T_not hg (by decide) (by decide) (by rw [← e]; exact ht)) (fun k ht e => hP (by rw [← e]; exact ht.1)), h3⟩
theorem Pl.r {B : Nat} {P : Nat → Prop} {w : World} {b y : Nat} {F G : List Sp} (h : Pl B P w b y F G) : ∃ sv pv, Rk B P w b sv pv F := by
  obtain ⟨sv, pv, yv, h1, h2, h3⟩ := h.st
  exact ⟨sv, pv, h1⟩
theorem Pl.y {B : Nat} {P : Nat → Prop} {w : World} {b y : Nat} {F G : List Sp} (h : Pl B P w b y F G) : ∃ yv, Ry B P w y yv G := by
  obtain ⟨sv, pv, yv, h1, h2, h3⟩ := h.st
  exact ⟨yv, h2⟩
/- The caller's own row. -/
abbrev OwnV (B : Nat) (w : World) (v : Value) (r : Rw) : Prop := Own Vl.cells 11 36 B w v r
theorem ownV_kp {B : Nat} {T : Nat → Prop} {w w' : World} {v : Value} {r : Rw} (h : OwnV B w v r) (hk : Kp T w w') (ht : ∀ (k : Nat) (cs : Array Value) (fz : Nat × Nat), w.heap[k]? = some (.cells cs 36 fz) → ¬ T k) : OwnV B w' v r :=
  own_kp h hk (fun g hg => by obtain ⟨c, f, hc⟩ := own_kind h hg; exact ht _ _ _ hc)
theorem ownV_on {B : Nat} {w w' : World} {v : Value} {r : Rw} (h : OwnV B w v r) (hb : Below w.heap.size w w') : OwnV B w' v r := own_kp (T := fun _ => False) h (Kp.of hb) (fun _ _ => id)
theorem ownV_row {B : Nat} {w w' : World} {v u : Value} {r : Rw} (h : OwnV B w v r) (hu : RowAt w' u r) : RowAt w v r := (Own.sl h vl_len (SlAt.bound hu)).imp (fun _ _ => trivial)
theorem pl_add {B B' : Nat} {P : Nat → Prop} {w : World} {b y : Nat} {F G : List Sp} {v u : Value} {s : Sp} {r : Rw} {q : Bool} (h : Pl B P w b y F G) (hv : RowAt w v s.vs) (hl : F.length ≤ 255) (hP : ∀ k, w.heap.size ≤ k → P k) (hB : B ≤ w.heap.size) (ho : OwnV B' w u r) (hq : (!hasT F s.t) = q) :
    Calls Try.prog 9 #[dp b, .int .i64 s.t, v] w fun e w' => e = .returned (.bool q) ∧ Pl B P w' b y (addS F s) G ∧ Below B w w' ∧ OwnV B' w' u r := by
  obtain ⟨sv, pv, yv, h1, h2, h3⟩ := h.st
  refine (add_any h1 hl hv hP hB).mono ?_
  rintro e w' ⟨rfl, sv', pv', h', hk, hf⟩
  refine ⟨by rw [hq], ⟨sv', pv', yv, h', h2.kp hk (fun k ht hr => h3 k hr ht) (fun k ht => h1.ty_not ht), fun k hr ht => ?_⟩, hk.below hB h1.T_ge, ownV_kp ho hk (fun k cs fz hc => h1.T_not hc (by decide) (by decide) (by decide))⟩
  rcases hf k hr with e | e
  · exact h3 k e ht
  · have := h2.T_lt k ht; omega
theorem pl_radd {B B' : Nat} {P : Nat → Prop} {w : World} {b y : Nat} {F G : List Sp} {v u : Value} {s : Sp} {r : Rw} {q : Bool} (h : Pl B P w b y F G) (hv : RowAt w v s.vs) (hl : G.length ≤ 500) (hP : ∀ k, w.heap.size ≤ k → P k) (hB : B ≤ w.heap.size) (ho : OwnV B' w u r) (hq : (!hasT G s.t) = q) :
    Calls Try.prog 10 #[dp y, .int .i64 s.t, v] w fun e w' => e = .returned (.bool q) ∧ Pl B P w' b y F (addS G s) ∧ Below B w w' ∧ OwnV B' w' u r := by
  obtain ⟨sv, pv, yv, h1, h2, h3⟩ := h.st
  refine (radd_any h2 hl hv hP hB).mono ?_
  rintro e w' ⟨rfl, yv', h', hk, hf⟩
  have hy29 : ∀ (k : Nat) (cs : Array Value) (fz : Nat × Nat), w.heap[k]? = some (.cells cs 36 fz) → ¬ k = y := fun k cs fz hc e => by subst e; rw [h2.blk] at hc; cases hc
  refine ⟨by rw [hq], ⟨sv, pv, yv', h1.kp hk (fun k hr e => h3 k hr (.inl e)) (fun k ht e => by obtain ⟨-, c, z, hc⟩ := ht; exact hy29 _ _ _ hc e), h', fun k hr ht => ?_⟩, hk.below hB (fun k e => by rw [e]; exact h2.yB), ownV_kp ho hk hy29⟩
  rcases hf k ht with e | e
  · exact h3 k hr e
  · have := h1.T_lt k hr; omega
theorem pl_get {B : Nat} {P Q : Nat → Prop} {w : World} {b y : Nat} {F G : List Sp} {at' : Int} {r : Rw} {q : Bool} (h : Pl B P w b y F G) (hl : F.length ≤ 1000) (hQ : ∀ k, w.heap.size ≤ k → Q k) (hf : getT F at' = r ∧ hasT F at' = q) :
    Calls Try.prog 11 #[dp b, .int .i64 at'] w fun e w' => ∃ p c, e = .returned (.tuple #[.slice p (List.length r) c, .bool q]) ∧ RowIn (ty36 Q w') w' (.slice p (List.length r) c) r ∧ Below w.heap.size w w' := by
  obtain ⟨sv, pv, h1⟩ := h.r
  rw [← hf.1, ← hf.2]
  exact get_any h1 hl hQ
theorem pl_rget {B : Nat} {P : Nat → Prop} {w : World} {b y : Nat} {F G : List Sp} {at' : Int} {r : Rw} {q : Bool} (h : Pl B P w b y F G) (hl : G.length ≤ 1000) (hf : getT G at' = r ∧ hasT G at' = q) :
    Calls Try.prog 12 #[dp y, .int .i64 at'] w fun e w' => ∃ p c, e = .returned (.tuple #[.slice p (List.length r) c, .bool q]) ∧ RowAt w' (.slice p (List.length r) c) r ∧ Below w.heap.size w w' := by
  obtain ⟨yv, h1⟩ := h.y
  rw [← hf.1, ← hf.2]
  exact rget_any h1 hl
theorem pl_len {B : Nat} {P : Nat → Prop} {w : World} {b y : Nat} {F G : List Sp} (h : Pl B P w b y F G) (hl : F.length ≤ 1000) :
    Calls Try.prog 14 #[dp b] w fun e w' => e = .returned (.int .i64 F.length) ∧ Below w.heap.size w w' := by
  obtain ⟨sv, pv, h1⟩ := h.r
  exact len_any h1 hl
theorem pl_span {B : Nat} {P : Nat → Prop} {w : World} {b y : Nat} {F G : List Sp} (h : Pl B P w b y F G) (hl : F.length ≤ 1000) :
    Calls Try.prog 18 #[dp b] w fun e w' => e = .returned (.tuple #[.int .i64 (spF F), .int .i64 (spL F), .bool (spS F)]) ∧ Below w.heap.size w w' := by
  obtain ⟨sv, pv, h1⟩ := h.r
  exact span_any h1 hl
theorem pl_range {B : Nat} {P Q : Nat → Prop} {w : World} {b y : Nat} {F G R : List Sp} {a z : Int} (h : Pl B P w b y F G) (hl : F.length ≤ 500) (hQ : ∀ k, w.heap.size ≤ k → Q k) (hf : rngS F a z = R) :
    Calls Try.prog 15 #[dp b, .int .i64 a, .int .i64 z] w fun e w' => ∃ p c hs, e = .returned (.slice p R.length c) ∧ Own Sh.cells 2 32 w.heap.size w' (.slice p R.length c) hs ∧ HeadsS Q w' hs R ∧ Below w.heap.size w w' := by
  obtain ⟨sv, pv, h1⟩ := h.r
  subst hf
  refine (range_any h1 hl hQ).mono ?_
  rintro e w' ⟨v, hs, rfl, ho, hh, hb⟩
  obtain ⟨p, c, rfl⟩ := own_formN ho hh.1
  exact ⟨p, c, hs, rfl, ho, hh, hb⟩
theorem pl_rrange {B : Nat} {P : Nat → Prop} {w : World} {b y : Nat} {F G R : List Sp} {a z : Int} (h : Pl B P w b y F G) (hl : G.length ≤ 500) (hf : rngS G a z = R) :
    Calls Try.prog 17 #[dp y, .int .i64 a, .int .i64 z] w fun e w' => ∃ p c, e = .returned (.slice p R.length c) ∧ Smp w' (.slice p R.length c) R ∧ Below w.heap.size w w' := by
  obtain ⟨yv, h1⟩ := h.y
  subst hf
  refine (rrange_any h1 hl).mono ?_
  rintro e w' ⟨v, hs, rfl, ho, hh, hb⟩
  have hs := own_smp ho hh (by have := rng_len G a z; omega)
  obtain ⟨p, c, hv, hx⟩ := hs
  exact ⟨p, c, by rw [hv], ⟨p, c, rfl, hx⟩, hb⟩
/- The run that was cloned, its clone, and the reference's. -/
structure P3 (B : Nat) (P : Nat → Prop) (w : World) (bo b y : Nat) (Fo F G : List Sp) : Prop where
  st : ∃ so po sv pv yv, Rk B P w bo so po Fo ∧ Rk B P w b sv pv F ∧ Ry B P w y yv G ∧ (∀ k, Tr bo so po k → ¬ Tr b sv pv k) ∧ (∀ k, Tr bo so po k → ¬ Ty y yv k) ∧ ∀ k, Tr b sv pv k → ¬ Ty y yv k
theorem P3.pl {B : Nat} {P : Nat → Prop} {w : World} {bo b y : Nat} {Fo F G : List Sp} (h : P3 B P w bo b y Fo F G) : Pl B P w b y F G := by
  obtain ⟨so, po, sv, pv, yv, h1, h2, h3, h4, h5, h6⟩ := h.st
  exact ⟨sv, pv, yv, h2, h3, h6⟩
theorem p3_clone {B B' : Nat} {P : Nat → Prop} {w : World} {b y : Nat} {F G : List Sp} {u : Value} {r : Rw} (h : Pl B P w b y F G) (hl : F.length ≤ 1000) (hB : B ≤ w.heap.size) (ho : OwnV B' w u r) :
    Calls Try.prog 8 #[dp b] w fun e w' => ∃ b', e = .returned (dp b') ∧ P3 B P w' b b' y F F G ∧ Below w.heap.size w w' ∧ OwnV B' w' u r := by
  obtain ⟨sv, pv, yv, h1, h2, h3⟩ := h.st
  refine (clone_any h1 hl).mono ?_
  rintro e w' ⟨b', sv', pv', rfl, h', hb⟩
  refine ⟨b', rfl, ⟨sv, pv, sv', pv', yv, h1.on hb, h'.le hB, h2.on hb, fun k ho hn => ?_, h3, fun k hn ht => ?_⟩, hb, ownV_on ho hb⟩
  · have := h1.T_lt k ho; have := h'.T_ge k hn; omega
  · have := h2.T_lt k ht; have := h'.T_ge k hn; omega
theorem p3_add {B B' : Nat} {P : Nat → Prop} {w : World} {bo b y : Nat} {Fo F G : List Sp} {u : Value} {r : Rw} (h : P3 B P w bo b y Fo F G) (t : Int) (hl : Fo.length ≤ 255) (hP : ∀ k, w.heap.size ≤ k → P k) (hB : B ≤ w.heap.size) (ho : OwnV B' w u r) :
    Calls Try.prog 9 #[dp bo, .int .i64 t, .slice none 0 0] w fun e w' => ∃ x, e = .returned x ∧ P3 B P w' bo b y (addS Fo ⟨t, []⟩) F G ∧ Below B w w' ∧ OwnV B' w' u r := by
  obtain ⟨so, po, sv, pv, yv, h1, h2, h3, h4, h5, h6⟩ := h.st
  refine (add_any (s := ⟨t, []⟩) h1 hl (SlAt.nil _ _ _ _) hP hB).mono ?_
  rintro e w' ⟨rfl, so', po', h', hk, hf⟩
  refine ⟨_, rfl, ⟨so', po', sv, pv, yv, h', h2.kp hk (fun k hn ho => h4 k ho hn) (fun k ht => h1.ty_not ht), h3.kp hk (fun k ht ho => h5 k ho ht) (fun k ht => h1.ty_not ht), fun k ho hn => ?_, fun k ho ht => ?_, h6⟩, hk.below hB h1.T_ge, ownV_kp ho hk (fun k cs fz hc => h1.T_not hc (by decide) (by decide) (by decide))⟩
  · rcases hf k ho with e | e
    · exact h4 k e hn
    · have := h2.T_lt k hn; omega
  · rcases hf k ho with e | e
    · exact h5 k e ht
    · have := h3.T_lt k ht; omega
theorem enters10 : ∀ args w, (callFunc 10 args).run Try.prog w = .ok (.enter 10 args) w := enters_of Try.func10 (by kernel_rfl) rfl
theorem enters15 : ∀ args w, (callFunc 15 args).run Try.prog w = .ok (.enter 15 args) w := enters_of Try.func15 (by kernel_rfl) rfl
theorem enters16 : ∀ args w, (callFunc 16 args).run Try.prog w = .ok (.enter 16 args) w := enters_of Try.func16 (by kernel_rfl) rfl
theorem enters17 : ∀ args w, (callFunc 17 args).run Try.prog w = .ok (.enter 17 args) w := enters_of Try.func17 (by kernel_rfl) rfl
theorem step_call2 {ops : Array Oper} {o : Oper} {a : Act} {w : World} {K : Act → World → Prop} {Q : Exit → Act → World → Prop} {E : Prop} {f : FuncId} {v v2 : Value} (hgd : o.guard = none) (x y : Operand) (t t2 : TypeId)
    (ho : o.op = .call { callee := .value (.func f), args := #[x, y], argTypes := #[t, t2] }) (hx : a.eval x = v) (hy : a.eval y = v2) (hen : ∀ args w, (callFunc f args).run Try.prog w = .ok (.enter f args) w)
    (hc : Calls Try.prog f #[v, v2] w fun e w' => ∃ u, e = .returned u ∧ K (a.put o.dst u) w') : if Region.wanted o (yielded ops a.tmps) = true then Oper.wp Try.prog o a w K Q else E := by
  have hw : Region.wanted o (yielded ops a.tmps) = true := by simp [Region.wanted, hgd]
  rw [if_pos hw]
  unfold Oper.wp
  have hr : (execOp a.eval o).run Try.prog w = .ok (.enter f #[v, v2]) w := by
    simp [execOp, ho, resolve, invoke, hen, go_sem]
    rw [← hx, ← hy]
    cases x <;> cases y <;> simp [Act.eval]
  rw [hr, Oper.upon_enter]
  refine hc.mono ?_
  rintro e w' ⟨u, rfl, hk⟩
  exact hk
/- Any block but a row's own. -/
def Pn (v : Value) (x : Nat) : Prop := v.ownBlock ≠ some x
/- A row's block, of whatever it holds. -/
def OwB (w : World) (p : Option Addr) (n : Nat) : Prop := 0 < n → ∃ g o arr, p = some ⟨g, o, none⟩ ∧ w.heap[g]? = some (.cells arr 36) ∧ o + n * 11 ≤ arr.size
theorem row_blk {Q : Nat → Prop} {w : World} {p : Option Addr} {n c : Nat} {r : Rw} (h : RowIn (ty36 Q w) w (.slice p n c) r) (hn : List.length r = n) : OwB w p n := by
  intro h0
  obtain ⟨p', c', hv, -, -, hx⟩ := h
  injection hv with e1 e2 e3
  obtain ⟨g, o, hp, ⟨⟨-, arr, fz, hblk⟩, -⟩, hc⟩ := hx (by intro e; subst e; simp at hn; omega)
  obtain ⟨fz, rfl⟩ := fz
  refine ⟨g, o, arr, by rw [e1, hp], hblk, ?_⟩
  have hx := List.getElem?_eq_getElem (l := r) (i := n - 1) (by omega)
  have h1 := hc (n - 1) _ hx 10 _ rfl
  rw [block_cell hblk] at h1
  have := (Array.getElem?_eq_some_iff.1 h1).1
  omega
theorem row_Q {Q : Nat → Prop} {w : World} {p : Option Addr} {n c g : Nat} {r : Rw} (h : RowIn (ty36 Q w) w (.slice p n c) r) (hn : 0 < n) (hl : List.length r = n) (hg : (Value.slice p n c).ownBlock = some g) : Q g ∧ ∃ cs fz, w.heap[g]? = some (.cells cs 36 fz) := by
  obtain ⟨p', c', hv, -, -, hx⟩ := h
  injection hv with e1 e2 e3
  obtain ⟨g', o, hp, ⟨⟨hQ, arr, fz, hblk⟩, -⟩, hc⟩ := hx (by intro e; subst e; simp at hl; omega)
  subst e1 hp
  cases hg
  exact ⟨hQ, _, _, hblk⟩
theorem ownV_blk {B : Nat} {w : World} {p : Option Addr} {n c : Nat} {r : Rw} (h : OwnV B w (.slice p n c) r) (hn : List.length r = n) : OwB w p n := by
  intro h0
  rcases h.2 with ⟨hv, h1⟩ | ⟨g, cap, cur, hv, hg, hblk, hc, hm, hs, -⟩
  · omega
  · injection hv with h1 h2 h3
    refine ⟨g, 0, cur, h1, hblk, ?_⟩
    rw [hs, Nat.zero_add]
    exact Nat.mul_le_mul_right _ (by omega)
theorem cells11 {w : World} {g : Nat} {arr : Array Value} {t : TypeId} {i : Nat} (hb : w.heap[g]? = some (.cells arr t)) (hs : i + 11 ≤ arr.size) :
    ∃ a0 a1 a2 a3 a4 a5 a6 a7 a8 a9 a10, w.cell? ⟨g, i, none⟩ = some a0 ∧ w.cell? ⟨g, i + 1, none⟩ = some a1 ∧ w.cell? ⟨g, i + 2, none⟩ = some a2 ∧ w.cell? ⟨g, i + 3, none⟩ = some a3 ∧ w.cell? ⟨g, i + 4, none⟩ = some a4 ∧ w.cell? ⟨g, i + 5, none⟩ = some a5 ∧ w.cell? ⟨g, i + 6, none⟩ = some a6 ∧ w.cell? ⟨g, i + 7, none⟩ = some a7 ∧ w.cell? ⟨g, i + 8, none⟩ = some a8 ∧ w.cell? ⟨g, i + 9, none⟩ = some a9 ∧ w.cell? ⟨g, i + 10, none⟩ = some a10 := by
  have h : ∀ j, j < arr.size → ∃ a, w.cell? ⟨g, j, none⟩ = some a := fun j hj => ⟨arr[j], by rw [block_cell hb, Array.getElem?_eq_getElem hj]⟩
  obtain ⟨a0, h0⟩ := h i (by omega)
  obtain ⟨a1, h1⟩ := h (i + 1) (by omega)
  obtain ⟨a2, h2⟩ := h (i + 2) (by omega)
  obtain ⟨a3, h3⟩ := h (i + 3) (by omega)
  obtain ⟨a4, h4⟩ := h (i + 4) (by omega)
  obtain ⟨a5, h5⟩ := h (i + 5) (by omega)
  obtain ⟨a6, h6⟩ := h (i + 6) (by omega)
  obtain ⟨a7, h7⟩ := h (i + 7) (by omega)
  obtain ⟨a8, h8⟩ := h (i + 8) (by omega)
  obtain ⟨a9, h9⟩ := h (i + 9) (by omega)
  obtain ⟨a10, h10⟩ := h (i + 10) (by omega)
  exact ⟨a0, a1, a2, a3, a4, a5, a6, a7, a8, a9, a10, h0, h1, h2, h3, h4, h5, h6, h7, h8, h9, h10⟩
/- The caller's own row, written over. -/
theorem pl_own {B B' : Nat} {w w' : World} {b y : Nat} {F G : List Sp} {p : Option Addr} {n c : Nat} {r : Rw} (h : Pl B (Pn (.slice p n c)) w b y F G) (ho : OwnV B' w (.slice p n c) r) (hk : Kp (fun x => (Value.slice p n c).ownBlock = some x) w w') : Pl B (Pn (.slice p n c)) w' b y F G := by
  cases p with
  | none => exact h.on ⟨hk.os, hk.tape, hk.output, hk.size, fun k hl => hk.block k hl (fun e => by cases e)⟩
  | some a =>
    obtain ⟨x, f, hc⟩ := own_kind ho (g := a.block) rfl
    exact h.kp hc (fun e => e rfl) ⟨hk.os, hk.tape, hk.output, hk.size, fun k hl hn => hk.block k hl (fun e => hn (Option.some.inj e).symm)⟩
/- A row that was told, written over. -/
theorem pl_told {B N : Nat} {P Q : Nat → Prop} {w w' : World} {b y : Nat} {F G : List Sp} {p : Option Addr} {n c : Nat} {r : Rw} (h : Pl B P w b y F G) (hr : RowIn (ty36 Q w) w (.slice p n c) r) (hl : List.length r = n) (hQ : ∀ k, Q k → ¬ P k) (hN : ∀ k, Q k → N ≤ k) (hNw : N ≤ w.heap.size) (hk : Kp (fun x => 0 < n ∧ (Value.slice p n c).ownBlock = some x) w w') : Pl B P w' b y F G ∧ Below N w w' := by
  by_cases hn : 0 < n
  · obtain ⟨g, o, arr, hp, hblk, -⟩ := row_blk hr hl hn
    subst hp
    obtain ⟨q1, cs, fz, q2⟩ := row_Q hr hn hl (g := g) rfl
    have hk' : Kp (fun x => x = g) w w' := ⟨hk.os, hk.tape, hk.output, hk.size, fun k hl' hn' => hk.block k hl' (fun e => hn' (Option.some.inj e.2).symm)⟩
    exact ⟨h.kp q2 (hQ g q1) hk', hk'.below hNw (fun k e => by rw [e]; exact hN g q1)⟩
  · have hb : Below w.heap.size w w' := ⟨hk.os, hk.tape, hk.output, hk.size, fun k hl' => hk.block k hl' (fun e => hn e.1)⟩
    exact ⟨h.on hb, hb.mono hNw⟩
abbrev KI (g o : Nat) (a : Int) (g' o' : Nat) (z : Int) (w : World) : Prop := w.cell? ⟨g, o, none⟩ = some (.int .i64 a) ∧ w.cell? ⟨g', o', none⟩ = some (.int .i64 z)
theorem kiD {g o : Nat} {a : Int} {g' o' : Nat} {z : Int} {w : World} (h : KI g o a g' o' z w) : KI g o a g' o' z w.drew := h
theorem kiOn {g o B : Nat} {a : Int} {g' o' : Nat} {z : Int} {w w' : World} (h : KI g o a g' o' z w) (hg : g < B) (hg' : g' < B) (hb : Below B w w') : KI g o a g' o' z w' := ⟨(hb.cell (p := ⟨g, o, none⟩) hg).trans h.1, (hb.cell (p := ⟨g', o', none⟩) hg').trans h.2⟩
abbrev KY (y : Nat) (v : Value) (w : World) : Prop := w.cell? ⟨y, 0, none⟩ = some v
theorem kyD {y : Nat} {v : Value} {w : World} (h : KY y v w) : KY y v w.drew := h
end Go.Proofs.Ytkjbnanjlcdgjaa
