/-
  The reader: what its row returns, or with what it panics.
  The reader: what its cols and rowCount return, or with what they panic.
  The reader: what its table returns, or with what it panics.
  The reader: with what its table panics; what it returns, all in all.
  What wire.bodyOf and wire.Decode return, for all bytes.
-/
import Derived.Test.YtjfholofgohcjaaPE
import Derived.Test.YtjfholofgohcjaaPJ
import Derived.Test.YtjfholofgohcjaaPL
import Derived.Test.YtjfholofgohcjaaQParse
namespace Go.Proofs.Ytjfholofgohcjaa
open Go.RowKit Go.Sort Go.Shelf

/- A block without bytes. -/
def NB (B : Nat) (w : World) : Prop := ∃ C t fz, w.heap[B]? = some (.cells C t fz) ∧ NoB C
def nob (v : Value) : Prop := ∀ t, v ≠ .int .u8 t
theorem noB_set {C : Array Value} (h : NoB C) {v : Value} (hv : nob v) (i : Nat) : NoB (C.setIfInBounds i v) := by
  intro o t ho
  rw [Array.getElem?_setIfInBounds] at ho
  split at ho
  · split at ho
    · injection ho with ho; exact hv t ho
    · cases ho
  · exact h o t ho
theorem NB.set {B i : Nat} {w : World} {v : Value} (h : NB B w) (hv : nob v) : NB B (w.setCell ⟨B, i, none⟩ v) :=
  let ⟨_, _, _, h1, h2⟩ := h; ⟨_, _, _, set_block h1 v, noB_set h2 hv i⟩
theorem NB.rd {B rb : Nat} {w w' : World} (h : NB B w) (hw : Rd rb w w') (hne : B ≠ rb) : NB B w' :=
  let ⟨C, t, fz, h1, h2⟩ := h; ⟨C, t, fz, hw.on h1 hne, h2⟩
theorem NB.on {B : Nat} {w w' : World} (h : NB B w) (hw : Below w.heap.size w w') : NB B w' :=
  let ⟨C, t, fz, h1, h2⟩ := h; ⟨C, t, fz, block_on h1 hw, h2⟩
theorem NB.lt {B : Nat} {w : World} (h : NB B w) : B < w.heap.size := let ⟨_, _, _, h1, _⟩ := h; lt_of_block h1
theorem RdAt.set {B i rb : Nat} {w : World} {xs : List UInt8} (h : RdAt rb w xs) (hb : NB B w) (hne : rb ≠ B) (v : Value) : RdAt rb (w.setCell ⟨B, i, none⟩ v) xs :=
  let ⟨_, _, _, h1, h2⟩ := hb; h.keep h1 h2 hne (set_rd w B i v)
theorem NB.sets {B : Nat} : ∀ (vs : List Value) (o : Nat) {w : World}, NB B w → (∀ v ∈ vs, nob v) → NB B (w.setCells B o vs)
  | [], _, _, h, _ => h
  | v :: vs, o, _, h, hv => NB.sets vs (o + 1) (h.set (hv v (List.mem_cons_self ..))) (fun u hu => hv u (List.mem_cons_of_mem _ hu))
theorem RdAt.sets {B rb : Nat} : ∀ (vs : List Value) (o : Nat) {w : World} {xs : List UInt8}, RdAt rb w xs → NB B w → rb ≠ B → (∀ v ∈ vs, nob v) → RdAt rb (w.setCells B o vs) xs
  | [], _, _, _, h, _, _, _ => h
  | v :: vs, o, _, _, h, hb, hne, hv => RdAt.sets vs (o + 1) (h.set hb hne v) (hb.set (hv v (List.mem_cons_self ..))) hne (fun u hu => hv u (List.mem_cons_of_mem _ hu))
theorem sets_rd (b : Nat) : ∀ (vs : List Value) (o : Nat) (w : World), Rd b w (w.setCells b o vs)
  | [], _, w => Rd.refl b w
  | v :: vs, o, w => (set_rd w b o v).trans (sets_rd b vs (o + 1) _)
theorem Filled.rd {α : Type} {enc : α → List Value} {k B m rb : Nat} {xs : List α} {w w' : World} (h : Filled enc k B m xs w) (hw : Rd rb w w') (hne : B ≠ rb) : Filled enc k B m xs w' := by
  have hb : w'.heap[B]? = w.heap[B]? := hw.block B h.lt hne
  refine ⟨Nat.lt_of_lt_of_le h.lt hw.size, fun i hi => ?_, fun i => ?_, fun j x hj i u hu => ?_⟩
  · obtain ⟨y, hy⟩ := h.cell i hi
    exact ⟨y, (World.cell?_of_block (a := ⟨B, i, none⟩) hb).trans hy⟩
  · exact (World.frozen?_of_block (a := ⟨B, i, none⟩) hb).trans (h.frozen i)
  · exact (World.cell?_of_block (a := ⟨B, j * k + i, none⟩) hb).trans (h.held j x hj i u hu)
theorem SlAt.rdQ {α : Type} {Q : Nat → Prop} {enc : α → List Value} {k rb : Nat} {w w' : World} {v : Value} {xs : List α} (h : SlAt Q enc k w v xs) (hk : 0 < k) (hen : ∀ x, (enc x).length = k) (hw : Rd rb w w') (hq : ∀ b, Q b → b ≠ rb) : SlAt Q enc k w' v xs := by
  obtain ⟨p, cap, hv, hc, hm, hx⟩ := h
  refine ⟨p, cap, hv, hc, hm, fun hn => ?_⟩
  obtain ⟨b, o, hp, hQ, hj⟩ := hx hn
  have hb0 : b < w.heap.size := by
    cases xs with
    | nil => exact absurd rfl hn
    | cons x r =>
      have hl : (enc x)[0]? = some ((enc x)[0]'(by rw [hen]; exact hk)) := List.getElem?_eq_getElem _
      exact block_lt_of_cell (hj 0 x rfl 0 _ hl)
  have hb : w'.heap[b]? = w.heap[b]? := hw.block b hb0 (hq b hQ.1)
  exact ⟨b, o, hp, hQ, fun j x hjx i u hu => (World.cell?_of_block (a := ⟨b, o + j * k + i, none⟩) hb).trans (hj j x hjx i u hu)⟩
theorem noB_made {n : Nat} {V : Array Value} (hV : 0 < V.size) (h : ∀ v ∈ V, nob v) : NoB (madeCells V n) := by
  intro o t ho
  unfold madeCells at ho
  rw [Array.getElem?_map] at ho
  cases hr : (Array.range n)[o]? with
  | none => rw [hr] at ho; cases ho
  | some i =>
    rw [hr] at ho
    injection ho with ho
    have hlt : i % V.size < V.size := Nat.mod_lt _ hV
    replace ho : V[i % V.size]! = .int .u8 t := ho
    rw [getElem!_pos V (i % V.size) hlt] at ho
    exact h _ (Array.getElem_mem hlt) t ho
theorem vl_nob (x : Vl) : ∀ v ∈ x.cells, nob v := by
  intro v hv t
  simp [Vl.cells] at hv
  rcases hv with rfl | rfl | rfl | rfl | rfl | rfl | rfl | rfl | rfl | rfl | rfl <;> simp
theorem zero_nob : ∀ v ∈ (V 0 0 ⟨#[]⟩ 0 0 0 0 0 0 0 0).cells, nob v := by
  intro v hv t
  simp [Value.cells] at hv
  rcases hv with rfl | rfl | rfl <;> simp
/- A row under way. -/
structure RowSt (rb : Nat) (w : World) (m : Nat) (cs : List Cl) (k : Nat) (dn : Rw) (xk : List UInt8) (wr : World) : Prop where
  fill : Filled Vl.cells 11 w.heap.size m dn wr
  len : List.length dn = k
  nb : NB w.heap.size wr
  rd : RdAt rb wr xk
  kept : Rd rb w wr
theorem RowSt.start {rb m : Nat} {w : World} {cs : List Cl} {xs : List UInt8} (h : RdAt rb w xs) : RowSt rb w m cs 0 [] xs (w.alloc (.cells (madeCells (V 0 0 ⟨#[]⟩ 0 0 0 0 0 0 0 0).cells (m * 11)) 44)) := by
  have hb := (Below.refl w.heap.size w).alloc (Nat.le_refl _) (.cells (madeCells (V 0 0 ⟨#[]⟩ 0 0 0 0 0 0 0 0).cells (m * 11)) 44)
  exact ⟨Filled.start _ _ _ _ _ (size_madeCells _ _), rfl, ⟨_, _, _, alloc_block w _, noB_made (by decide) zero_nob⟩, h.rd hb, Rd.of hb⟩
theorem RowSt.step {rb m k : Nat} {w wr w1 : World} {cs : List Cl} {dn : Rw} {xk r : List UInt8} {x : Vl} (h : RowSt rb w m cs k dn xk wr) (hl : rb < w.heap.size) (hkm : k < m) (hr : RdAt rb w1 r) (hw : Rd rb wr w1) : RowSt rb w m cs (k + 1) (dn ++ [x]) r (w1.setCells w.heap.size (k * 11) x.cells) := by
  have hf := h.fill.rd hw (by omega)
  have hn := h.nb.rd hw (by omega)
  have hput := hf.put (x := x) (fun x => rfl) (by rw [h.len]; omega)
  rw [h.len] at hput
  exact ⟨hput, by rw [List.length_append, h.len]; rfl, hn.sets _ _ (vl_nob x), hr.sets _ _ hn (by omega) (vl_nob x), (h.kept.trans hw).beside (sets_rd _ _ _ _) (Nat.le_refl _)⟩
theorem RowSt.alloc {rb m k : Nat} {w wr : World} {cs : List Cl} {dn : Rw} {xk : List UInt8} (h : RowSt rb w m cs k dn xk wr) (o : Obj) : RowSt rb w m cs k dn xk (wr.alloc o) := by
  have hb := (Below.refl wr.heap.size wr).alloc (Nat.le_refl _) o
  exact ⟨h.fill.rd (rb := wr.heap.size) (Rd.of hb) (by have := h.fill.lt; omega), h.len, h.nb.on hb, h.rd.rd hb, h.kept.trans (Rd.of hb)⟩
theorem rowP_cons {cs : List Cl} {k : Nat} (hk : k < cs.length) (xs : List UInt8) : rowP (cs.drop k) xs = (match takeV cs[k]!.kd xs with | none => none | some (x, r) => match rowP (cs.drop (k + 1)) r with | none => none | some (q, r') => some (x :: q, r')) := by
  rw [List.drop_eq_getElem_cons hk, show cs[k]! = cs[k] from getElem!_pos cs k hk]
  rfl
set_option maxRecDepth 100000 in
set_option maxHeartbeats 1000000 in
theorem row_some {rb : Nat} {w : World} {cv : Value} {cs : List Cl} {xs r : List UInt8} {q : Rw} (hc : SlAt (fun b => b ≠ rb) Cl.cells 2 w cv cs) (hcl : cs.length ≤ 16) (h : RdAt rb w xs) (hp : rowP cs xs = some (q, r)) :
    Calls Try.prog 116 #[.pointer (some ⟨rb, 0, none⟩), cv] w fun e w' => ∃ v', e = .returned v' ∧ SlAt (fun b => w.heap.size ≤ b) Vl.cells 11 w' v' q ∧ RdAt rb w' r ∧ Rd rb w w' := by
  have HC := hid hc
  obtain ⟨p, cap, rfl, hcap, hmax, hx⟩ := hc
  have hlt := h.lt
  have hmk := make_pickV cs.length (by omega)
  generalize hn : cs.length = m at *
  have HM := hid hn
  have HS := hid (RowSt.start (m := m) (cs := cs) h)
  have HP := hid hp
  clear h hp hx hn hmax
  go_enter Try.func116, Try.ntmps116
  go_wp2
  go_loopw [13] (fun i wr => ∃ (k : Nat) (dn qk : Rw) (xk : List UInt8), k ≤ m ∧ i = .int .i64 k ∧ Hid (RowSt rb w m cs k dn xk wr) ∧ Hid (rowP (cs.drop k) xk = some (qk, r)) ∧ Hid (dn ++ qk = q)) (fun i _ => m - (intOf i).toNat)
  case atStart => exact ⟨0, [], q, xs, by omega, rfl, HS.out, HP.out, rfl⟩
  case round =>
    obtain ⟨k, dn, qk, xk, hk, rfl, HR, HQ, HD⟩ := hrel
    by_cases hkm : k < m
    · have hkc : k < cs.length := by rw [HM.out]; exact hkm
      obtain ⟨p', cap', he, -, -, hx'⟩ := HC.out.rdQ (by decide) (fun _ => rfl) HR.out.kept (fun _ h => h)
      injection he with e1 e2 e3
      subst e1 e3
      obtain ⟨b, o, rfl, -, hj⟩ := hx' (by intro e; subst e; simp at hkc)
      obtain ⟨hc0, hc1⟩ := col_cells (hj k _ (get!_some hkc))
      have hq := HQ.out
      rw [rowP_cons hkc] at hq
      generalize cs[k]! = cc at hc0 hc1 hq
      cases ht : takeV cc.kd xk with
      | none => rw [ht] at hq; cases hq
      | some xr =>
        obtain ⟨x, r1⟩ := xr
        rw [ht] at hq
        simp only at hq
        cases hq2 : rowP (cs.drop (k + 1)) r1 with
        | none => rw [hq2] at hq; cases hq
        | some qr =>
          obtain ⟨q', r'⟩ := qr
          rw [hq2] at hq
          simp only [Option.some.injEq, Prod.mk.injEq] at hq
          obtain ⟨hqa, hqb⟩ := hq
          subst hqa hqb
          have HT := hid ht
          have HQ2 := hid hq2
          have HRA := hid (HR.out.alloc (.cells #[.string cc.nm, .int .i64 cc.kd] 32))
          clear ht hq2 hj hx' e2
          go_wp2_with (first
            | (go_at_call 66; refine (value_some HRA.out.rd HT.out).mono ?_; rintro e w1 ⟨rfl, hr1, hw1⟩; have hf := HRA.out.fill.rd hw1 (by omega); have HST := hid (HRA.out.step (x := x) hlt hkm hr1 hw1); have d0 := hf.cell (k * 11 + 0) (by omega); have d1 := hf.cell (k * 11 + 1) (by omega); have d2 := hf.cell (k * 11 + 2) (by omega); have d3 := hf.cell (k * 11 + 3) (by omega); have d4 := hf.cell (k * 11 + 4) (by omega); have d5 := hf.cell (k * 11 + 5) (by omega); have d6 := hf.cell (k * 11 + 6) (by omega); have d7 := hf.cell (k * 11 + 7) (by omega); have d8 := hf.cell (k * 11 + 8) (by omega); have d9 := hf.cell (k * 11 + 9) (by omega); have d10 := hf.cell (k * 11 + 10) (by omega); have f0 := hf.frozen; rw [Nat.add_zero] at d0; obtain ⟨y0, d0⟩ := d0; obtain ⟨y1, d1⟩ := d1; obtain ⟨y2, d2⟩ := d2; obtain ⟨y3, d3⟩ := d3; obtain ⟨y4, d4⟩ := d4; obtain ⟨y5, d5⟩ := d5; obtain ⟨y6, d6⟩ := d6; obtain ⟨y7, d7⟩ := d7; obtain ⟨y8, d8⟩ := d8; obtain ⟨y9, d9⟩ := d9; obtain ⟨y10, d10⟩ := d10; clear hf hr1 hw1))
          go_roundw
          case rel => exact ⟨k + 1, dn ++ [x], q', r1, by omega, by go_num, HST.out, HQ2.out, by show _ = q; rw [← HD.out, List.append_assoc]; rfl⟩
          case measure => simp [intOf]; omega
    · have hkm' : k = m := by omega
      subst hkm'
      have hq := HQ.out
      rw [List.drop_eq_nil_of_le (by rw [HM.out]; exact Nat.le_refl _)] at hq
      simp only [rowP, Option.some.injEq, Prod.mk.injEq] at hq
      obtain ⟨hqa, hqb⟩ := hq
      subst hqa hqb
      have hdq : dn = q := by rw [← HD.out, List.append_nil]
      have HDQ := hid hdq
      clear hdq
      go_wp2
      go_ret
      exact ⟨_, rfl, by rw [← HDQ.out]; exact HR.out.fill.sl HR.out.len (by omega), HR.out.rd, HR.out.kept⟩
set_option maxRecDepth 100000 in
set_option maxHeartbeats 1000000 in
theorem row_none {rb : Nat} {w : World} {cv : Value} {cs : List Cl} {xs : List UInt8} (hc : SlAt (fun b => b ≠ rb) Cl.cells 2 w cv cs) (hcl : cs.length ≤ 16) (hkd : ∀ c ∈ cs, 1 ≤ c.kd ∧ c.kd ≤ 4) (h : RdAt rb w xs) (hp : rowP cs xs = none) :
    Calls Try.prog 116 #[.pointer (some ⟨rb, 0, none⟩), cv] w fun e w' => e = dies errB ∧ Rd rb w w' := by
  have HC := hid hc
  obtain ⟨p, cap, rfl, hcap, hmax, hx⟩ := hc
  have hlt := h.lt
  have hmk := make_pickV cs.length (by omega)
  generalize hn : cs.length = m at *
  have HM := hid hn
  have HS := hid (RowSt.start (m := m) (cs := cs) h)
  have HP := hid hp
  have HKD := hid hkd
  clear h hp hx hn hmax hkd
  go_enter Try.func116, Try.ntmps116
  go_wp2
  go_loopw [13] (fun i wr => ∃ (k : Nat) (dn : Rw) (xk : List UInt8), k ≤ m ∧ i = .int .i64 k ∧ Hid (RowSt rb w m cs k dn xk wr) ∧ Hid (rowP (cs.drop k) xk = none)) (fun i _ => m - (intOf i).toNat)
  case atStart => exact ⟨0, [], xs, by omega, rfl, HS.out, HP.out⟩
  case round =>
    obtain ⟨k, dn, xk, hk, rfl, HR, HQ⟩ := hrel
    by_cases hkm : k < m
    · have hkc : k < cs.length := by rw [HM.out]; exact hkm
      obtain ⟨p', cap', he, -, -, hx'⟩ := HC.out.rdQ (by decide) (fun _ => rfl) HR.out.kept (fun _ h => h)
      injection he with e1 e2 e3
      subst e1 e3
      obtain ⟨b, o, rfl, -, hj⟩ := hx' (by intro e; subst e; simp at hkc)
      obtain ⟨hc0, hc1⟩ := col_cells (hj k _ (get!_some hkc))
      have hq := HQ.out
      rw [rowP_cons hkc] at hq
      have HKK : Hid (1 ≤ cs[k]!.kd ∧ cs[k]!.kd ≤ 4) := HKD.out _ (List.mem_of_getElem? (get!_some hkc))
      generalize cs[k]! = cc at hc0 hc1 hq HKK
      have HRA := hid (HR.out.alloc (.cells #[.string cc.nm, .int .i64 cc.kd] 32))
      cases ht : takeV cc.kd xk with
      | none =>
        have HT := hid ht
        clear ht hq hj hx' e2
        go_wp2_with (first
          | (go_at_call 66; refine (value_none HRA.out.rd HKK.out HT.out).mono ?_; rintro e w1 ⟨rfl, hw1⟩))
        exact ⟨rfl, rfl, HRA.out.kept.trans hw1⟩
      | some xr =>
        obtain ⟨x, r1⟩ := xr
        rw [ht] at hq
        simp only at hq
        cases hq2 : rowP (cs.drop (k + 1)) r1 with
        | some qr => rw [hq2] at hq; cases hq
        | none =>
          have HT := hid ht
          have HQ2 := hid hq2
          clear ht hq2 hq hj hx' e2
          go_wp2_with (first
            | (go_at_call 66; refine (value_some HRA.out.rd HT.out).mono ?_; rintro e w1 ⟨rfl, hr1, hw1⟩; have hf := HRA.out.fill.rd hw1 (by omega); have HST := hid (HRA.out.step (x := x) hlt hkm hr1 hw1); have d0 := hf.cell (k * 11 + 0) (by omega); have d1 := hf.cell (k * 11 + 1) (by omega); have d2 := hf.cell (k * 11 + 2) (by omega); have d3 := hf.cell (k * 11 + 3) (by omega); have d4 := hf.cell (k * 11 + 4) (by omega); have d5 := hf.cell (k * 11 + 5) (by omega); have d6 := hf.cell (k * 11 + 6) (by omega); have d7 := hf.cell (k * 11 + 7) (by omega); have d8 := hf.cell (k * 11 + 8) (by omega); have d9 := hf.cell (k * 11 + 9) (by omega); have d10 := hf.cell (k * 11 + 10) (by omega); have f0 := hf.frozen; rw [Nat.add_zero] at d0; obtain ⟨y0, d0⟩ := d0; obtain ⟨y1, d1⟩ := d1; obtain ⟨y2, d2⟩ := d2; obtain ⟨y3, d3⟩ := d3; obtain ⟨y4, d4⟩ := d4; obtain ⟨y5, d5⟩ := d5; obtain ⟨y6, d6⟩ := d6; obtain ⟨y7, d7⟩ := d7; obtain ⟨y8, d8⟩ := d8; obtain ⟨y9, d9⟩ := d9; obtain ⟨y10, d10⟩ := d10; clear hf hr1 hw1))
          go_roundw
          case rel => exact ⟨k + 1, dn ++ [x], r1, by omega, by go_num, HST.out, HQ2.out⟩
          case measure => simp [intOf]; omega
    · have hkm' : k = m := by omega
      subst hkm'
      have hq := HQ.out
      rw [List.drop_eq_nil_of_le (by rw [HM.out]; exact Nat.le_refl _)] at hq
      cases hq
end Go.Proofs.Ytjfholofgohcjaa
namespace Go.Proofs.Ytjfholofgohcjaa
open Go.RowKit Go.Sort Go.Shelf

theorem Filled.poke {α : Type} {enc : α → List Value} {k B m i : Nat} {xs : List α} {w : World} (h : Filled enc k B m xs w) (hk : ∀ x, (enc x).length = k) (hi : xs.length * k ≤ i) (u : Value) : Filled enc k B m xs (w.setCell ⟨B, i, none⟩ u) := by
  refine ⟨by rw [World.size_setCell]; exact h.lt, fun j hj => ?_, fun j => by rw [World.frozen?_setCell]; exact h.frozen j, fun j x hj a v hv => ?_⟩
  · obtain ⟨y, hy⟩ := h.cell j hj
    exact cell?_setCell_some hy
  · have hlt : j < xs.length := (List.getElem?_eq_some_iff.1 hj).1
    have ha : a < k := by have := (List.getElem?_eq_some_iff.1 hv).1; rwa [hk] at this
    have : (j + 1) * k ≤ xs.length * k := Nat.mul_le_mul_right k hlt
    rw [Nat.succ_mul] at this
    rw [World.cell?_setCell_other w ⟨B, i, none⟩ ⟨B, j * k + a, none⟩ u (by intro e; injection e with _ e; omega)]
    exact h.held j x hj a v hv
theorem Filled.snoc {α : Type} {enc : α → List Value} {k B m : Nat} {xs : List α} {w : World} {x : α} (h : Filled enc k B m xs w) (hc : CellsAt w B (xs.length * k) (enc x)) : Filled enc k B m (xs ++ [x]) w := by
  refine ⟨h.lt, h.cell, h.frozen, fun j y hy => ?_⟩
  by_cases hj : j < xs.length
  · rw [List.getElem?_append_left hj] at hy; exact h.held j y hy
  · rw [List.getElem?_append_right (by omega)] at hy
    cases hd : j - xs.length with
    | succ d => rw [hd] at hy; simp at hy
    | zero =>
      rw [hd] at hy
      simp at hy
      subst hy
      have : j = xs.length := by omega
      subst this
      exact hc
theorem zeroC_nob : ∀ v ∈ (Value.agg #[.string ⟨#[]⟩, .int .i64 0]).cells, nob v := by
  intro v hv t
  simp [Value.cells] at hv
  rcases hv with rfl | rfl <;> simp
structure ColSt (rb : Nat) (w : World) (m : Nat) (k : Nat) (dn : List Cl) (xk : List UInt8) (wr : World) : Prop where
  fill : Filled Cl.cells 2 w.heap.size m dn wr
  len : dn.length = k
  nb : NB w.heap.size wr
  rd : RdAt rb wr xk
  kept : Rd rb w wr
theorem ColSt.start {rb m : Nat} {w : World} {xs : List UInt8} (h : RdAt rb w xs) : ColSt rb w m 0 [] xs (w.alloc (.cells (madeCells (Value.agg #[.string ⟨#[]⟩, .int .i64 0]).cells (m * 2)) 32)) := by
  have hb := (Below.refl w.heap.size w).alloc (Nat.le_refl _) (.cells (madeCells (Value.agg #[.string ⟨#[]⟩, .int .i64 0]).cells (m * 2)) 32)
  exact ⟨Filled.start _ _ _ _ _ (size_madeCells _ _), rfl, ⟨_, _, _, alloc_block w _, noB_made (by decide) zeroC_nob⟩, h.rd hb, Rd.of hb⟩
theorem ColSt.read {rb m k : Nat} {w wr w1 : World} {dn : List Cl} {xk r : List UInt8} (h : ColSt rb w m k dn xk wr) (hl : rb < w.heap.size) (hr : RdAt rb w1 r) (hw : Rd rb wr w1) : ColSt rb w m k dn r w1 :=
  ⟨h.fill.rd hw (by omega), h.len, h.nb.rd hw (by omega), hr, h.kept.trans hw⟩
theorem ColSt.poke {rb m k i : Nat} {w wr : World} {dn : List Cl} {xk : List UInt8} (h : ColSt rb w m k dn xk wr) (hl : rb < w.heap.size) (hi : k * 2 ≤ i) {u : Value} (hu : nob u) : ColSt rb w m k dn xk (wr.setCell ⟨w.heap.size, i, none⟩ u) :=
  ⟨h.fill.poke (fun _ => rfl) (by rw [h.len]; exact hi) u, h.len, h.nb.set hu, h.rd.set h.nb (by omega) u, h.kept.set (Nat.le_refl _) u⟩
theorem ColSt.snoc {rb m k : Nat} {w wr : World} {dn : List Cl} {xk : List UInt8} {c : Cl} (h : ColSt rb w m k dn xk wr) (h0 : wr.cell? ⟨w.heap.size, k * 2, none⟩ = some (.string c.nm)) (h1 : wr.cell? ⟨w.heap.size, k * 2 + 1, none⟩ = some (.int .i64 c.kd)) : ColSt rb w m (k + 1) (dn ++ [c]) xk wr :=
  ⟨h.fill.snoc (by
    rw [h.len]
    intro j u hj
    match j, hj with
    | 0, hj => simp [Cl.cells] at hj; subst hj; exact h0
    | 1, hj => simp [Cl.cells] at hj; subst hj; exact h1
    | j + 2, hj => simp [Cl.cells] at hj), by rw [List.length_append, h.len]; rfl, h.nb, h.rd, h.kept⟩
theorem str_nob (s : ByteArray) : nob (.string s) := fun t h => by cases h
theorem int_nob (n : Int) : nob (.int .i64 n) := fun t h => by cases h
/- One column's two stores. -/
theorem ColSt.step {rb m k : Nat} {w wr w2 w3 : World} {dn : List Cl} {xk r2 r3 : List UInt8} {c : Cl} (h : ColSt rb w m k dn xk wr) (hl : rb < w.heap.size) (hkm : k < m) (hr2 : RdAt rb w2 r2) (hw2 : Rd rb wr w2) (hr3 : RdAt rb w3 r3) (hw3 : Rd rb (w2.setCell ⟨w.heap.size, k * 2, none⟩ (.string c.nm)) w3) :
    ColSt rb w m (k + 1) (dn ++ [c]) r3 (w3.setCell ⟨w.heap.size, k * 2 + 1, none⟩ (.int .i64 c.kd)) := by
  have s2 := h.read hl hr2 hw2
  obtain ⟨y0, hy0⟩ := s2.fill.cell (k * 2) (by omega)
  have s2' := s2.poke hl (Nat.le_refl _) (str_nob c.nm)
  have c0 : (w2.setCell ⟨w.heap.size, k * 2, none⟩ (.string c.nm)).cell? ⟨w.heap.size, k * 2, none⟩ = some (.string c.nm) := World.cell?_setCell_same w2 _ _ hy0
  have s3 := s2'.read hl hr3 hw3
  have c0' : w3.cell? ⟨w.heap.size, k * 2, none⟩ = some (.string c.nm) := (World.cell?_of_block (a := ⟨w.heap.size, k * 2, none⟩) (hw3.block w.heap.size s2'.fill.lt (show w.heap.size ≠ rb by omega))).trans c0
  obtain ⟨y1, hy1⟩ := s3.fill.cell (k * 2 + 1) (by omega)
  have s3' := s3.poke hl (i := k * 2 + 1) (by omega) (int_nob c.kd)
  exact s3'.snoc ((World.cell?_setCell_other w3 _ _ _ (by intro e; injection e with _ e; omega)).trans c0') (World.cell?_setCell_same w3 _ _ hy1)
theorem colsP_succ (n : Nat) (xs : List UInt8) : colsP (n + 1) xs = (match colP xs with | none => none | some (c, r) => match colsP n r with | none => none | some (cs, r') => some (c :: cs, r')) := rfl
theorem colP_parts {xs : List UInt8} {c : Cl} {r : List UInt8} (h : colP xs = some (c, r)) : ∃ a q k, xs = a :: q ∧ a.toNat ≤ q.length ∧ q.drop a.toNat = k :: r ∧ c = mkCol q a k := by
  cases xs with
  | nil => cases h
  | cons a q =>
    unfold colP at h
    simp only at h
    split at h
    · rename_i hl
      split at h
      · cases h
      · rename_i k r' hd
        cases h
        exact ⟨a, q, k, rfl, hl, hd, rfl⟩
    · cases h
theorem colP_not {xs : List UInt8} (h : colP xs = none) : xs = [] ∨ ∃ a q, xs = a :: q ∧ (q.length < a.toNat ∨ (a.toNat ≤ q.length ∧ q.drop a.toNat = [])) := by
  cases xs with
  | nil => exact .inl rfl
  | cons a q =>
    unfold colP at h
    simp only at h
    split at h
    · rename_i hl
      split at h
      · rename_i hd; exact .inr ⟨a, q, rfl, .inr ⟨hl, hd⟩⟩
      · cases h
    · exact .inr ⟨a, q, rfl, .inl (by omega)⟩
set_option maxRecDepth 100000 in
set_option maxHeartbeats 1000000 in
theorem cols_some {rb : Nat} {w : World} {c0 : UInt8} {xs : List UInt8} {cs : List Cl} {r : List UInt8} (h : RdAt rb w (c0 :: xs)) (hp : colsP c0.toNat xs = some (cs, r)) (hcb : colsB cs = true) :
    Calls Try.prog 114 #[.pointer (some ⟨rb, 0, none⟩)] w fun e w' => ∃ v', e = .returned v' ∧ SlAt (fun b => w.heap.size ≤ b) Cl.cells 2 w' v' cs ∧ RdAt rb w' r ∧ Rd rb w w' := by
  have HX0 := hid h
  have hlt0 := h.lt
  clear h
  have hc0 := c0.toNat_lt
  have hmk := make_pickC c0.toNat (by omega)
  have HP := hid hp
  clear hp
  generalize hm : c0.toNat = m at *
  have HM := hid hm
  clear hm
  have hchk : checkV cs [] = 0 := check_of hcb (fun q hq => by cases hq)
  have HCHK := hid hchk
  clear hchk hcb
  go_enter Try.func114, Try.ntmps114
  go_wp2_with (first
    | (go_at_call 108; refine (number_one HX0.out).mono ?_; rintro e w1 ⟨rfl, hr1, hw1⟩; rw [HM.out]; have HS := hid (ColSt.start (m := m) hr1); have HW1 := hid hw1; have hlt : rb < w1.heap.size := Nat.lt_of_lt_of_le hlt0 hw1.size; clear hr1 hw1))
  go_loopw [10] (fun i wr => ∃ (k : Nat) (dn ck : List Cl) (xk : List UInt8), k ≤ m ∧ i = .int .i64 k ∧ Hid (ColSt rb w1 m k dn xk wr) ∧ Hid (colsP (m - k) xk = some (ck, r)) ∧ Hid (dn ++ ck = cs)) (fun i _ => m - (intOf i).toNat)
  case atStart => exact ⟨0, [], cs, xs, by omega, rfl, HS.out, HP.out, rfl⟩
  case round =>
    obtain ⟨k, dn, ck, xk, hk, rfl, HR, HQ, HD⟩ := hrel
    by_cases hkm : k < m
    · have hq := HQ.out
      rw [show m - k = (m - (k + 1)) + 1 by omega, colsP_succ] at hq
      cases hcol : colP xk with
      | none => rw [hcol] at hq; cases hq
      | some cr =>
        obtain ⟨cc, r2⟩ := cr
        rw [hcol] at hq
        simp only at hq
        cases hq2 : colsP (m - (k + 1)) r2 with
        | none => rw [hq2] at hq; cases hq
        | some qr =>
        obtain ⟨ck', r'⟩ := qr
        rw [hq2] at hq
        simp only [Option.some.injEq, Prod.mk.injEq] at hq
        obtain ⟨hqa, hqb⟩ := hq
        subst hqa hqb
        have HQ2 := hid hq2
        clear hq2
        obtain ⟨a, q, kk, hxk, hal, hdr, hcc⟩ := colP_parts hcol
        have HX := hid hxk
        have HA := hid hal
        have HDR := hid hdr
        have HCC := hid hcc
        clear hxk hal hdr hcc hcol
        go_wp2_with (first
          | (go_at_call 109; refine (text_yes (by have := HR.out.rd; rw [HX.out] at this; exact this) HA.out).mono ?_; rintro e w2 ⟨rfl, hr2, hw2⟩; have s2 := HR.out.read hlt hr2 hw2; have c2 := s2.fill.cell (k * 2) (by omega); have f2 := s2.fill.frozen; have HS2 := hid (s2.poke hlt (Nat.le_refl _) (str_nob ⟨(q.take a.toNat).toArray⟩)); have HR2 := hid hr2; have HW2 := hid hw2; obtain ⟨y2, c2⟩ := c2; generalize hnm : (⟨(q.take a.toNat).toArray⟩ : ByteArray) = nm at *; have HNM := hid hnm; clear s2 hr2 hw2 hnm)
          | (go_at_call 108; have hstep : ∀ (w3 : World), RdAt rb w3 r2 → Rd rb (w2.setCell ⟨w1.heap.size, k * 2, none⟩ (.string nm)) w3 → ColSt rb w1 m (k + 1) (dn ++ [cc]) r2 (w3.setCell ⟨w1.heap.size, k * 2 + 1, none⟩ (.int .i64 (kk.toNat : Int))) := (fun w3 hr3 hw3 => (by have e := HR.out.step (c := cc) hlt hkm HR2.out HW2.out hr3 (by rw [HCC.out]; show Rd rb (w2.setCell _ (.string ⟨(q.take a.toNat).toArray⟩)) w3; rw [HNM.out]; exact hw3); rw [HCC.out] at e ⊢; exact e)); have HSTEP := hid hstep; clear hstep; generalize World.setCell _ _ _ = W2 at *; refine (number_one (by have := HS2.out.rd; rw [HDR.out] at this; exact this)).mono ?_; rintro e w3 ⟨rfl, hr3, hw3⟩; have s3 := HS2.out.read hlt hr3 hw3; have c3 := s3.fill.cell (k * 2 + 1) (by omega); have f3 := s3.fill.frozen; have HST := hid (HSTEP.out _ hr3 hw3); obtain ⟨y3, c3⟩ := c3; clear s3 hr3 hw3))
        go_roundw
        case rel => exact ⟨k + 1, dn ++ [cc], ck', r2, by omega, by go_num, HST.out, HQ2.out, by show _ = cs; rw [← HD.out, List.append_assoc]; rfl⟩
        case measure => simp [intOf]; omega
    · have hkm' : k = m := by omega
      subst hkm'
      have hq := HQ.out
      rw [Nat.sub_self] at hq
      simp only [colsP, Option.some.injEq, Prod.mk.injEq] at hq
      obtain ⟨hqa, hqb⟩ := hq
      subst hqa hqb
      have hdq : dn = cs := by rw [← HD.out, List.append_nil]
      have HDQ := hid hdq
      clear hdq
      have hsl := HR.out.fill.sl HR.out.len (by omega)
      rw [HDQ.out] at hsl
      have HSL := hid hsl
      have HT := hid (show TabAt wr (.agg #[.slice (some ⟨w1.heap.size, 0, none⟩) k k, .slice none 0 0]) cs [] from ⟨_, _, rfl, SlAt.imp hsl (fun _ _ => trivial), [], SlAt.nil _ _ _ _, rfl, fun j h r h1 h2 => by simp at h1⟩)
      clear hsl
      go_wp2_with (first
        | (go_at_call 46; refine (check_any HT.out).mono ?_; rintro e w4 ⟨rfl, hb4⟩; rw [HCHK.out]; have HB4 := hid hb4; clear hb4)
        | (go_at_call 110; refine demand_true.mono ?_; rintro e w5 ⟨rfl, rfl⟩))
      go_ret
      exact ⟨_, rfl, SlAt.imp (SlAt.on HSL.out HB4.out) (fun b hb => Nat.le_trans HW1.out.size hb), HR.out.rd.rd HB4.out, (HW1.out.trans HR.out.kept).trans (Rd.of HB4.out)⟩
set_option maxRecDepth 100000 in
set_option maxHeartbeats 1000000 in
theorem cols_bad {rb : Nat} {w : World} {c0 : UInt8} {xs : List UInt8} {cs : List Cl} {r : List UInt8} (h : RdAt rb w (c0 :: xs)) (hp : colsP c0.toNat xs = some (cs, r)) (hcb : colsB cs = false) :
    Calls Try.prog 114 #[.pointer (some ⟨rb, 0, none⟩)] w fun e w' => e = dies errB ∧ Rd rb w w' := by
  have HX0 := hid h
  have hlt0 := h.lt
  clear h
  have hc0 := c0.toNat_lt
  have hmk := make_pickC c0.toNat (by omega)
  have HP := hid hp
  clear hp
  generalize hm : c0.toNat = m at *
  have HM := hid hm
  clear hm
  have hchk : checkV cs [] = 20 := by simp [checkV, hcb]
  have HCHK := hid hchk
  clear hchk hcb
  go_enter Try.func114, Try.ntmps114
  go_wp2_with (first
    | (go_at_call 108; refine (number_one HX0.out).mono ?_; rintro e w1 ⟨rfl, hr1, hw1⟩; rw [HM.out]; have HS := hid (ColSt.start (m := m) hr1); have HW1 := hid hw1; have hlt : rb < w1.heap.size := Nat.lt_of_lt_of_le hlt0 hw1.size; clear hr1 hw1))
  go_loopw [10] (fun i wr => ∃ (k : Nat) (dn ck : List Cl) (xk : List UInt8), k ≤ m ∧ i = .int .i64 k ∧ Hid (ColSt rb w1 m k dn xk wr) ∧ Hid (colsP (m - k) xk = some (ck, r)) ∧ Hid (dn ++ ck = cs)) (fun i _ => m - (intOf i).toNat)
  case atStart => exact ⟨0, [], cs, xs, by omega, rfl, HS.out, HP.out, rfl⟩
  case round =>
    obtain ⟨k, dn, ck, xk, hk, rfl, HR, HQ, HD⟩ := hrel
    by_cases hkm : k < m
    · have hq := HQ.out
      rw [show m - k = (m - (k + 1)) + 1 by omega, colsP_succ] at hq
      cases hcol : colP xk with
      | none => rw [hcol] at hq; cases hq
      | some cr =>
        obtain ⟨cc, r2⟩ := cr
        rw [hcol] at hq
        simp only at hq
        cases hq2 : colsP (m - (k + 1)) r2 with
        | none => rw [hq2] at hq; cases hq
        | some qr =>
        obtain ⟨ck', r'⟩ := qr
        rw [hq2] at hq
        simp only [Option.some.injEq, Prod.mk.injEq] at hq
        obtain ⟨hqa, hqb⟩ := hq
        subst hqa hqb
        have HQ2 := hid hq2
        clear hq2
        obtain ⟨a, q, kk, hxk, hal, hdr, hcc⟩ := colP_parts hcol
        have HX := hid hxk
        have HA := hid hal
        have HDR := hid hdr
        have HCC := hid hcc
        clear hxk hal hdr hcc hcol
        go_wp2_with (first
          | (go_at_call 109; refine (text_yes (by have := HR.out.rd; rw [HX.out] at this; exact this) HA.out).mono ?_; rintro e w2 ⟨rfl, hr2, hw2⟩; have s2 := HR.out.read hlt hr2 hw2; have c2 := s2.fill.cell (k * 2) (by omega); have f2 := s2.fill.frozen; have HS2 := hid (s2.poke hlt (Nat.le_refl _) (str_nob ⟨(q.take a.toNat).toArray⟩)); have HR2 := hid hr2; have HW2 := hid hw2; obtain ⟨y2, c2⟩ := c2; generalize hnm : (⟨(q.take a.toNat).toArray⟩ : ByteArray) = nm at *; have HNM := hid hnm; clear s2 hr2 hw2 hnm)
          | (go_at_call 108; have hstep : ∀ (w3 : World), RdAt rb w3 r2 → Rd rb (w2.setCell ⟨w1.heap.size, k * 2, none⟩ (.string nm)) w3 → ColSt rb w1 m (k + 1) (dn ++ [cc]) r2 (w3.setCell ⟨w1.heap.size, k * 2 + 1, none⟩ (.int .i64 (kk.toNat : Int))) := (fun w3 hr3 hw3 => (by have e := HR.out.step (c := cc) hlt hkm HR2.out HW2.out hr3 (by rw [HCC.out]; show Rd rb (w2.setCell _ (.string ⟨(q.take a.toNat).toArray⟩)) w3; rw [HNM.out]; exact hw3); rw [HCC.out] at e ⊢; exact e)); have HSTEP := hid hstep; clear hstep; generalize World.setCell _ _ _ = W2 at *; refine (number_one (by have := HS2.out.rd; rw [HDR.out] at this; exact this)).mono ?_; rintro e w3 ⟨rfl, hr3, hw3⟩; have s3 := HS2.out.read hlt hr3 hw3; have c3 := s3.fill.cell (k * 2 + 1) (by omega); have f3 := s3.fill.frozen; have HST := hid (HSTEP.out _ hr3 hw3); obtain ⟨y3, c3⟩ := c3; clear s3 hr3 hw3))
        go_roundw
        case rel => exact ⟨k + 1, dn ++ [cc], ck', r2, by omega, by go_num, HST.out, HQ2.out, by show _ = cs; rw [← HD.out, List.append_assoc]; rfl⟩
        case measure => simp [intOf]; omega
    · have hkm' : k = m := by omega
      subst hkm'
      have hq := HQ.out
      rw [Nat.sub_self] at hq
      simp only [colsP, Option.some.injEq, Prod.mk.injEq] at hq
      obtain ⟨hqa, hqb⟩ := hq
      subst hqa hqb
      have hdq : dn = cs := by rw [← HD.out, List.append_nil]
      have HDQ := hid hdq
      clear hdq
      have hsl := HR.out.fill.sl HR.out.len (by omega)
      rw [HDQ.out] at hsl
      have HSL := hid hsl
      have HT := hid (show TabAt wr (.agg #[.slice (some ⟨w1.heap.size, 0, none⟩) k k, .slice none 0 0]) cs [] from ⟨_, _, rfl, SlAt.imp hsl (fun _ _ => trivial), [], SlAt.nil _ _ _ _, rfl, fun j h r h1 h2 => by simp at h1⟩)
      clear hsl
      go_wp2_with (first
        | (go_at_call 46; refine (check_any HT.out).mono ?_; rintro e w4 ⟨rfl, hb4⟩; rw [HCHK.out]; have HB4 := hid hb4; clear hb4)
        | (go_at_call 110; refine demand_false.mono ?_; rintro e w5 ⟨rfl, rfl⟩))
      exact ⟨rfl, rfl, (HW1.out.trans HR.out.kept).trans (Rd.of HB4.out)⟩
set_option maxRecDepth 100000 in
set_option maxHeartbeats 1000000 in
theorem cols_none {rb : Nat} {w : World} {c0 : UInt8} {xs : List UInt8} (h : RdAt rb w (c0 :: xs)) (hp : colsP c0.toNat xs = none) :
    Calls Try.prog 114 #[.pointer (some ⟨rb, 0, none⟩)] w fun e w' => e = dies errB ∧ Rd rb w w' := by
  have HX0 := hid h
  have hlt0 := h.lt
  clear h
  have hc0 := c0.toNat_lt
  have hmk := make_pickC c0.toNat (by omega)
  have HP := hid hp
  clear hp
  generalize hm : c0.toNat = m at *
  have HM := hid hm
  clear hm
  go_enter Try.func114, Try.ntmps114
  go_wp2_with (first
    | (go_at_call 108; refine (number_one HX0.out).mono ?_; rintro e w1 ⟨rfl, hr1, hw1⟩; rw [HM.out]; have HS := hid (ColSt.start (m := m) hr1); have HW1 := hid hw1; have hlt : rb < w1.heap.size := Nat.lt_of_lt_of_le hlt0 hw1.size; clear hr1 hw1))
  go_loopw [10] (fun i wr => ∃ (k : Nat) (dn ck : List Cl) (xk : List UInt8), k ≤ m ∧ i = .int .i64 k ∧ Hid (ColSt rb w1 m k dn xk wr) ∧ Hid (colsP (m - k) xk = none)) (fun i _ => m - (intOf i).toNat)
  case atStart => exact ⟨0, [], [], xs, by omega, rfl, HS.out, HP.out⟩
  case round =>
    obtain ⟨k, dn, ck, xk, hk, rfl, HR, HQ⟩ := hrel
    by_cases hkm : k < m
    · have hq := HQ.out
      rw [show m - k = (m - (k + 1)) + 1 by omega, colsP_succ] at hq
      cases hcol : colP xk with
      | none =>
        rcases colP_not hcol with hxk | ⟨a, q, hxk, hal | ⟨hal, hdr⟩⟩
        · have HX := hid hxk
          clear hxk hcol hq
          go_wp2_with (first
            | (go_at_call 109; refine (text_none (by have := HR.out.rd; rw [HX.out] at this; exact this)).mono ?_; rintro e w2 ⟨rfl, hw2⟩))
          exact ⟨rfl, rfl, (HW1.out.trans HR.out.kept).trans hw2⟩
        · have HX := hid hxk
          have HA := hid hal
          clear hxk hcol hq hal
          go_wp2_with (first
            | (go_at_call 109; refine (text_short (by have := HR.out.rd; rw [HX.out] at this; exact this) HA.out).mono ?_; rintro e w2 ⟨rfl, hw2⟩))
          exact ⟨rfl, rfl, (HW1.out.trans HR.out.kept).trans hw2⟩
        · have HX := hid hxk
          have HA := hid hal
          have HDR := hid hdr
          clear hxk hcol hq hal hdr
          go_wp2_with (first
            | (go_at_call 109; refine (text_yes (by have := HR.out.rd; rw [HX.out] at this; exact this) HA.out).mono ?_; rintro e w2 ⟨rfl, hr2, hw2⟩; have s2 := HR.out.read hlt hr2 hw2; have c2 := s2.fill.cell (k * 2) (by omega); have f2 := s2.fill.frozen; have HS2 := hid (s2.poke hlt (Nat.le_refl _) (str_nob ⟨(q.take a.toNat).toArray⟩)); have HR2 := hid hr2; have HW2 := hid hw2; obtain ⟨y2, c2⟩ := c2; generalize hnm : (⟨(q.take a.toNat).toArray⟩ : ByteArray) = nm at *; have HNM := hid hnm; clear s2 hr2 hw2 hnm)
            | (go_at_call 108; generalize World.setCell _ _ _ = W2 at *; refine (number_no (n := 1) HS2.out.rd (by rw [HDR.out]; decide)).mono ?_; rintro e w3 ⟨rfl, rfl⟩))
          exact ⟨rfl, rfl, HW1.out.trans HS2.out.kept⟩
      | some cr =>
        obtain ⟨cc, r2⟩ := cr
        rw [hcol] at hq
        simp only at hq
        cases hq2 : colsP (m - (k + 1)) r2 with
        | some qr => rw [hq2] at hq; cases hq
        | none =>
        have HQ2 := hid hq2
        clear hq2 hq
        obtain ⟨a, q, kk, hxk, hal, hdr, hcc⟩ := colP_parts hcol
        have HX := hid hxk
        have HA := hid hal
        have HDR := hid hdr
        have HCC := hid hcc
        clear hxk hal hdr hcc hcol
        go_wp2_with (first
          | (go_at_call 109; refine (text_yes (by have := HR.out.rd; rw [HX.out] at this; exact this) HA.out).mono ?_; rintro e w2 ⟨rfl, hr2, hw2⟩; have s2 := HR.out.read hlt hr2 hw2; have c2 := s2.fill.cell (k * 2) (by omega); have f2 := s2.fill.frozen; have HS2 := hid (s2.poke hlt (Nat.le_refl _) (str_nob ⟨(q.take a.toNat).toArray⟩)); have HR2 := hid hr2; have HW2 := hid hw2; obtain ⟨y2, c2⟩ := c2; generalize hnm : (⟨(q.take a.toNat).toArray⟩ : ByteArray) = nm at *; have HNM := hid hnm; clear s2 hr2 hw2 hnm)
          | (go_at_call 108; have hstep : ∀ (w3 : World), RdAt rb w3 r2 → Rd rb (w2.setCell ⟨w1.heap.size, k * 2, none⟩ (.string nm)) w3 → ColSt rb w1 m (k + 1) (dn ++ [cc]) r2 (w3.setCell ⟨w1.heap.size, k * 2 + 1, none⟩ (.int .i64 (kk.toNat : Int))) := (fun w3 hr3 hw3 => (by have e := HR.out.step (c := cc) hlt hkm HR2.out HW2.out hr3 (by rw [HCC.out]; show Rd rb (w2.setCell _ (.string ⟨(q.take a.toNat).toArray⟩)) w3; rw [HNM.out]; exact hw3); rw [HCC.out] at e ⊢; exact e)); have HSTEP := hid hstep; clear hstep; generalize World.setCell _ _ _ = W2 at *; refine (number_one (by have := HS2.out.rd; rw [HDR.out] at this; exact this)).mono ?_; rintro e w3 ⟨rfl, hr3, hw3⟩; have s3 := HS2.out.read hlt hr3 hw3; have c3 := s3.fill.cell (k * 2 + 1) (by omega); have f3 := s3.fill.frozen; have HST := hid (HSTEP.out _ hr3 hw3); obtain ⟨y3, c3⟩ := c3; clear s3 hr3 hw3))
        go_roundw
        case rel => exact ⟨k + 1, dn ++ [cc], [], r2, by omega, by go_num, HST.out, HQ2.out⟩
        case measure => simp [intOf]; omega
    · have hkm' : k = m := by omega
      subst hkm'
      have hq := HQ.out
      rw [Nat.sub_self] at hq
      cases hq
set_option maxRecDepth 100000 in
theorem cols_empty {rb : Nat} {w : World} (h : RdAt rb w []) :
    Calls Try.prog 114 #[.pointer (some ⟨rb, 0, none⟩)] w fun e w' => e = dies errB ∧ Rd rb w w' := by
  have HX := hid h
  clear h
  go_enter Try.func114, Try.ntmps114
  go_wp2_with (first
    | (go_at_call 108; refine (number_no (n := 1) HX.out (by decide)).mono ?_; rintro e w1 ⟨rfl, rfl⟩))
  exact ⟨rfl, rfl, Rd.refl _ _⟩
set_option maxRecDepth 100000 in
theorem count_yes {rb : Nat} {w : World} {xs : List UInt8} (h : RdAt rb w xs) (hn : 2 ≤ xs.length) (hm : numB (xs.take 2) ≤ 4096) :
    Calls Try.prog 115 #[.pointer (some ⟨rb, 0, none⟩)] w fun e w' => e = .returned (.int .i64 (numB (xs.take 2))) ∧ RdAt rb w' (xs.drop 2) ∧ Rd rb w w' := by
  have HX := hid h
  have HN := hid hn
  clear h hn
  generalize hy : numB (xs.take 2) = y at *
  have HY := hid hy
  clear hy
  go_enter Try.func115, Try.ntmps115
  go_wp2_with (first
    | (go_at_call 108; refine (number_yes (n := 2) HX.out HN.out).mono ?_; rintro e w1 ⟨rfl, hr1, hw1⟩; rw [HY.out]; have HR1 := hid hr1; have HW1 := hid hw1; clear hr1 hw1)
    | (go_at_call 110; refine demand_true.mono ?_; rintro e w5 ⟨rfl, rfl⟩))
  go_ret
  exact ⟨rfl, HR1.out, HW1.out⟩
set_option maxRecDepth 100000 in
theorem count_long {rb : Nat} {w : World} {xs : List UInt8} (h : RdAt rb w xs) (hn : 2 ≤ xs.length) (hm : ¬ numB (xs.take 2) ≤ 4096) :
    Calls Try.prog 115 #[.pointer (some ⟨rb, 0, none⟩)] w fun e w' => e = dies errB ∧ Rd rb w w' := by
  have HX := hid h
  have HN := hid hn
  clear h hn
  generalize hy : numB (xs.take 2) = y at *
  have HY := hid hy
  clear hy
  have hm' : decide (y ≤ 4096) = false := by simpa using hm
  clear hm
  go_enter Try.func115, Try.ntmps115
  go_wp2_with (first
    | (go_at_call 108; refine (number_yes (n := 2) HX.out HN.out).mono ?_; rintro e w1 ⟨rfl, hr1, hw1⟩; rw [HY.out]; have HR1 := hid hr1; have HW1 := hid hw1; clear hr1 hw1)
    | (go_at_call 110; refine demand_false.mono ?_; rintro e w5 ⟨rfl, rfl⟩))
  exact ⟨rfl, rfl, HW1.out⟩
set_option maxRecDepth 100000 in
theorem count_short {rb : Nat} {w : World} {xs : List UInt8} (h : RdAt rb w xs) (hn : xs.length < 2) :
    Calls Try.prog 115 #[.pointer (some ⟨rb, 0, none⟩)] w fun e w' => e = dies errB ∧ Rd rb w w' := by
  have HX := hid h
  have HN := hid hn
  clear h hn
  go_enter Try.func115, Try.ntmps115
  go_wp2_with (first
    | (go_at_call 108; refine (number_no (n := 2) HX.out HN.out).mono ?_; rintro e w1 ⟨rfl, rfl⟩))
  exact ⟨rfl, rfl, Rd.refl _ _⟩
end Go.Proofs.Ytjfholofgohcjaa
namespace Go.Proofs.Ytjfholofgohcjaa
open Go.RowKit Go.Sort Go.Shelf

theorem make_heads (n : Nat) (hn : n ≤ 4096) (W : World) : (Instr.makeSlice 23 (.int .i64 (n : Int)) (.int .i64 (n : Int))).run Try.prog W = .ok (.slice (some ⟨W.heap.size, 0, none⟩) n n) (W.alloc (.cells (madeCells #[.slice none 0 0] n) 65)) := by
  obtain ⟨i, hi, h0, h1, h2⟩ := info_parts info35
  have h := run_make W 23 65 i _ Try.underlying23 hi h0 .i64 .i64 (n : Int) (n : Int) (by omega) (Int.le_refl _) (by rw [h2]; omega) (by omega)
  rw [h, h1, Int.toNat_natCast, Nat.mul_one]
  rfl
theorem sl_nob (p : Option Addr) (n c : Nat) : nob (.slice p n c) := fun t h => by cases h
theorem HeadsIn.rdQ {Q : Nat → Prop} {rb : Nat} {w w' : World} {hs : List Value} {rs : List Rw} (h : HeadsIn Q w hs rs) (hw : Rd rb w w') (hq : ∀ b, Q b → b ≠ rb) : HeadsIn Q w' hs rs :=
  ⟨h.1, fun j x r h1 h2 => SlAt.rdQ (h.2 j x r h1 h2) (by decide) vl_len hw hq⟩
theorem HeadsIn.snoc {Q : Nat → Prop} {w : World} {hs : List Value} {rs : List Rw} {x : Value} {r : Rw} (h : HeadsIn Q w hs rs) (hx : RowIn Q w x r) : HeadsIn Q w (hs ++ [x]) (rs ++ [r]) := by
  refine ⟨by rw [List.length_append, List.length_append, h.1]; rfl, fun j y q h1 h2 => ?_⟩
  by_cases hj : j < hs.length
  · rw [List.getElem?_append_left hj] at h1
    rw [List.getElem?_append_left (by rw [← h.1]; exact hj)] at h2
    exact h.2 j y q h1 h2
  · rw [List.getElem?_append_right (by omega)] at h1
    rw [List.getElem?_append_right (by rw [← h.1]; omega), ← h.1] at h2
    cases hd : j - hs.length with
    | succ d => rw [hd] at h1; simp at h1
    | zero =>
      rw [hd] at h1 h2
      simp at h1 h2
      subst h1 h2
      exact hx
theorem SlAt.lowQ {α : Type} {Q : Nat → Prop} {enc : α → List Value} {k : Nat} {w : World} {v : Value} {xs : List α} (h : SlAt Q enc k w v xs) (hk : 0 < k) (hen : ∀ x, (enc x).length = k) : SlAt (fun b => Q b ∧ b < w.heap.size) enc k w v xs := by
  obtain ⟨p, cap, hv, hc, hm, hx⟩ := h
  refine ⟨p, cap, hv, hc, hm, fun hn => ?_⟩
  obtain ⟨b, o, hp, hQ, hj⟩ := hx hn
  have hb0 : b < w.heap.size := by
    cases xs with
    | nil => exact absurd rfl hn
    | cons x r =>
      have hl : (enc x)[0]? = some ((enc x)[0]'(by rw [hen]; exact hk)) := List.getElem?_eq_getElem _
      exact block_lt_of_cell (hj 0 x rfl 0 _ hl)
  exact ⟨b, o, hp, ⟨⟨hQ.1, hb0⟩, hQ.2⟩, hj⟩
/- Rows under way: w is the world ahead of their block. -/
structure TabSt (rb L : Nat) (w : World) (m : Nat) (cv : Value) (cs : List Cl) (k : Nat) (hs : List Value) (dn : List Rw) (xk : List UInt8) (wr : World) : Prop where
  fill : Filled one 1 w.heap.size m hs wr
  len : hs.length = k
  heads : HeadsIn (fun b => w.heap.size < b) wr hs dn
  cols : SlAt (fun b => (b ≠ rb ∧ L < b) ∧ b < w.heap.size) Cl.cells 2 wr cv cs
  nb : NB w.heap.size wr
  rd : RdAt rb wr xk
  kept : Rd rb w wr
theorem TabSt.start {rb L m : Nat} {w : World} {cv : Value} {cs : List Cl} {xs : List UInt8} (h : RdAt rb w xs) (hc : SlAt (fun b => (b ≠ rb ∧ L < b) ∧ b < w.heap.size) Cl.cells 2 w cv cs) : TabSt rb L w m cv cs 0 [] [] xs (w.alloc (.cells (madeCells #[.slice none 0 0] m) 65)) := by
  have hb := (Below.refl w.heap.size w).alloc (Nat.le_refl _) (.cells (madeCells #[.slice none 0 0] m) 65)
  exact ⟨Filled.start _ _ _ _ _ (by rw [size_madeCells, Nat.mul_one]), rfl, ⟨rfl, fun j x r h1 _ => by simp at h1⟩, hc.on hb, ⟨_, _, _, alloc_block w _, noB_made (by decide) (fun v hv => by simp at hv; subst hv; exact sl_nob _ _ _)⟩, h.rd hb, Rd.of hb⟩
theorem TabSt.step {rb L m k : Nat} {w wr w1 : World} {cv : Value} {cs : List Cl} {hs : List Value} {dn : List Rw} {xk r : List UInt8} {p : Option Addr} {n c : Nat} {q : Rw} (h : TabSt rb L w m cv cs k hs dn xk wr) (hl : rb < w.heap.size) (hkm : k < m) (hq : SlAt (fun b => wr.heap.size ≤ b) Vl.cells 11 w1 (.slice p n c) q) (hr : RdAt rb w1 r) (hw : Rd rb wr w1) :
    TabSt rb L w m cv cs (k + 1) (hs ++ [.slice p n c]) (dn ++ [q]) r (w1.setCell ⟨w.heap.size, k, none⟩ (.slice p n c)) := by
  have hf := h.fill.rd hw (by omega)
  have hn := h.nb.rd hw (by omega)
  have hB : w.heap.size < wr.heap.size := h.fill.lt
  have hput := hf.put (x := .slice p n c) (fun _ => rfl) (by rw [h.len]; omega)
  rw [h.len, Nat.mul_one] at hput
  have hh := (h.heads.rdQ hw (fun b hb => by omega)).snoc (SlAt.imp hq (fun b hb => (by omega : w.heap.size < b)))
  exact ⟨hput, by rw [List.length_append, h.len]; rfl, hh.rdQ (set_rd _ _ _ _) (fun b hb => by omega), (h.cols.rdQ (by decide) cl_len hw (fun b hb => hb.1.1)).rdQ (by decide) cl_len (set_rd _ _ _ _) (fun b hb => by omega), hn.set (sl_nob _ _ _), hr.set hn (by omega) _, (h.kept.trans hw).set (Nat.le_refl _) _⟩
theorem TabSt.tab {rb L m : Nat} {w wr w' : World} {cv : Value} {cs : List Cl} {hs : List Value} {dn : List Rw} {xk : List UInt8} (h : TabSt rb L w m cv cs m hs dn xk wr) (hm : m ≤ 4096) (hL : L < w.heap.size) (hw : Rd L wr w') : TabIn (fun b => L < b) w' (.agg #[cv, .slice (some ⟨w.heap.size, 0, none⟩) m m]) cs dn :=
  ⟨_, _, rfl, SlAt.imp (h.cols.rdQ (by decide) cl_len hw (fun b hb => by omega)) (fun b hb => hb.1.2), hs, SlAt.imp ((h.fill.rd hw (by omega)).sl h.len hm) (fun b hb => by omega), (h.heads.rdQ hw (fun b hb => by omega)).imp (fun b hb => by omega)⟩
theorem rowsP_succ (cs : List Cl) (n : Nat) (xs : List UInt8) : rowsP cs (n + 1) xs = (match rowP cs xs with | none => none | some (q, r) => match rowsP cs n r with | none => none | some (qs, r') => some (q :: qs, r')) := rfl
set_option maxRecDepth 100000 in
set_option maxHeartbeats 1000000 in
theorem table_some {rb : Nat} {w : World} {c0 : UInt8} {xs r1 : List UInt8} {cs : List Cl} {rs : List Rw} (h : RdAt rb w (c0 :: xs)) (hp : colsP c0.toNat xs = some (cs, r1)) (hcb : colsB cs = true) (hn2 : 2 ≤ r1.length) (hcnt : numB (r1.take 2) ≤ 4096) (hrp : rowsP cs (numB (r1.take 2)).toNat (r1.drop 2) = some (rs, [])) :
    Calls Try.prog 75 #[.pointer (some ⟨rb, 0, none⟩)] w fun e w' => ∃ v', e = .returned v' ∧ TabIn (fun b => w.heap.size < b) w' v' cs rs ∧ Rd rb w w' := by
  have hlt := h.lt
  have hb0 := (Below.refl w.heap.size w).alloc (Nat.le_refl _) (.cells #[.slice none 0 0, .slice none 0 0] 25)
  have HX := hid (h.rd hb0)
  have HB0 := hid hb0
  have K0 := hid (alloc_block w (.cells #[.slice none 0 0, .slice none 0 0] 25))
  have HP := hid hp
  have HCB := hid hcb
  have HCL := hid (cols_parts hcb).1.2
  have HKD : Hid (∀ c ∈ cs, 1 ≤ c.kd ∧ c.kd ≤ 4) := fun c hc => ((cols_parts hcb).2 c hc).2
  clear h hp hcb hb0
  generalize hre : ([] : List UInt8) = r at hrp
  have HRE := hid hre
  clear hre
  have HN2 := hid hn2
  have hrg := numB_range (xs := r1.take 2) (by simp; omega)
  have hy4 := hcnt
  generalize hm : (numB (r1.take 2)).toNat = m at *
  have hy : numB (r1.take 2) = (m : Int) := by omega
  have HY := hid hy
  have HRP := hid hrp
  have hmk := make_heads m (by omega)
  have hm4 : m ≤ 4096 := by omega
  have HB0W : Hid (Rd rb w (w.alloc (.cells #[.slice none 0 0, .slice none 0 0] 25))) := Rd.of HB0.out
  clear hrp hn2 hcnt hm hy hrg
  go_enter Try.func75, Try.ntmps75
  go_wp2_with (first
    | (go_at_call 114; refine (cols_some HX.out HP.out HCB.out).mono ?_; rintro e w1 ⟨cv, rfl, hsl1, hr1, hw1⟩; have K1 := hid (hw1.on K0.out (by omega)); have HW1 := hid hw1; have HR1 := hid hr1; have HSL1 := hid hsl1; obtain ⟨pc, capc, rfl, -⟩ := hsl1; clear hr1 hw1)
    | (go_at_call 115; refine (count_yes HR1.out HN2.out hy4).mono ?_; rintro e w2 ⟨rfl, hr2, hw2⟩; rw [HY.out]; have K2 := hid (hw2.on K1.out (by omega)); have hlt2 : rb < w2.heap.size := (by have h1 := HW1.out.size; have h2 := hw2.size; rw [World.size_alloc] at h1; omega); have hL2 : w.heap.size < w2.heap.size := (by have h1 := HW1.out.size; have h2 := hw2.size; rw [World.size_alloc] at h1; omega); have HC2 := hid (SlAt.lowQ (SlAt.rdQ (SlAt.imp HSL1.out (Q' := fun b => b ≠ rb ∧ w.heap.size < b) (fun b hb => (by rw [World.size_alloc] at hb; constructor <;> omega))) (by decide) cl_len hw2 (fun b hb => hb.1)) (by decide) cl_len); have HS := hid (TabSt.start (m := m) hr2 HC2.out); have HW2 := hid ((HB0W.out.trans HW1.out).trans hw2); clear hr2 hw2))
  go_loopw [13] (fun i wr => ∃ (k : Nat) (hs : List Value) (dn qk : List Rw) (xk : List UInt8), k ≤ m ∧ i = .int .i64 k ∧ Hid (TabSt rb w.heap.size w2 m (.slice pc cs.length capc) cs k hs dn xk wr) ∧ Hid (rowsP cs (m - k) xk = some (qk, r)) ∧ Hid (dn ++ qk = rs)) (fun i _ => m - (intOf i).toNat)
  case atStart => exact ⟨0, [], [], rs, _, by omega, rfl, HS.out, HRP.out, rfl⟩
  case round =>
    obtain ⟨k, hs, dn, qk, xk, hk, rfl, HR, HQ, HD⟩ := hrel
    by_cases hkm : k < m
    · have hq := HQ.out
      rw [show m - k = (m - (k + 1)) + 1 by omega, rowsP_succ] at hq
      have HCW := hid (SlAt.imp HR.out.cols (Q' := fun b => b ≠ rb) (fun b hb => hb.1.1))
      cases ht : rowP cs xk with
      | none => rw [ht] at hq; cases hq
      | some qr =>
        obtain ⟨q, r2⟩ := qr
        rw [ht] at hq
        simp only at hq
        cases hq2 : rowsP cs (m - (k + 1)) r2 with
        | none => rw [hq2] at hq; cases hq
        | some qr2 =>
        obtain ⟨qs', r'⟩ := qr2
        rw [hq2] at hq
        simp only [Option.some.injEq, Prod.mk.injEq] at hq
        obtain ⟨hqa, hqb⟩ := hq
        subst hqa hqb
        have HQ2 := hid hq2
        have HT := hid ht
        clear hq2 ht
        go_wp2_with (first
          | (go_at_call 116; refine (row_some HCW.out HCL.out HR.out.rd HT.out).mono ?_; rintro e w3 ⟨rv, rfl, hq3, hr3, hw3⟩; obtain ⟨pq, capq, hrv, -⟩ := id hq3; subst hrv; have hf := HR.out.fill.rd hw3 (by omega); have d0 := hf.cell k (by omega); have f0 := hf.frozen; have HST := hid (HR.out.step hlt2 hkm hq3 hr3 hw3); obtain ⟨y0, d0⟩ := d0; clear hf hq3 hr3 hw3))
        go_roundw
        case rel => exact ⟨k + 1, _, dn ++ [q], qs', r2, by omega, by go_num, HST.out, HQ2.out, by show _ = rs; rw [← HD.out, List.append_assoc]; rfl⟩
        case measure => simp [intOf]; omega
    · have hkm' : k = m := by omega
      subst hkm'
      have hq := HQ.out
      rw [Nat.sub_self] at hq
      simp only [rowsP, Option.some.injEq, Prod.mk.injEq] at hq
      obtain ⟨hqa, hqb⟩ := hq
      subst hqa hqb
      have hdq : dn = rs := by rw [← HD.out, List.append_nil]
      have HDQ := hid hdq
      clear hdq
      obtain ⟨lv, hlv, hbat⟩ := HR.out.rd
      have kl := block_cell hlv
      obtain ⟨pl, cl, rfl, -⟩ := hbat
      clear hlv
      have KW := hid (HR.out.kept.on K2.out (by omega))
      have kw := block_cell KW.out
      have zw := block_frozen KW.out
      have hl0 : (xk.length == 0) = true := by rw [← HRE.out]; rfl
      have hl0' : ((xk.length : Int) == 0) = true := by rw [← HRE.out]; rfl
      go_wp2_with (first
        | (go_at_call 110; refine demand_true.mono ?_; rintro e w5 ⟨rfl, rfl⟩))
      have hset := (set_rd w5 w.heap.size 0 (.slice pc cs.length capc)).trans (set_rd (w5.setCell ⟨w.heap.size, 0, none⟩ (.slice pc cs.length capc)) w.heap.size 1 (.slice (some ⟨w2.heap.size, 0, none⟩) k k))
      have hTab := HR.out.tab hm4 hL2 hset
      have hkf := set_block (i := 1) (set_block (i := 0) KW.out (.slice pc cs.length capc)) (.slice (some ⟨w2.heap.size, 0, none⟩) k k)
      have hrdf := (HW2.out.trans HR.out.kept).beside hset (Nat.le_refl _)
      rw [HDQ.out] at hTab
      have HTAB := hid hTab
      have HKF := hid hkf
      have HRF := hid hrdf
      clear hTab hkf hrdf hset kw zw kl
      generalize World.setCell _ _ _ = WF at *
      have kf := block_cell HKF.out
      exact bodyPost_ret (v := .agg #[.slice pc cs.length capc, .slice (some ⟨w2.heap.size, 0, none⟩) k k]) (by simp [results, Try.results75, go_sem, kf]) rfl ⟨_, rfl, HTAB.out, HRF.out⟩
end Go.Proofs.Ytjfholofgohcjaa
namespace Go.Proofs.Ytjfholofgohcjaa
open Go.RowKit Go.Sort Go.Shelf

theorem table_dies {rb : Nat} {w : World} (hc : Calls Try.prog 114 #[.pointer (some ⟨rb, 0, none⟩)] (w.alloc (.cells #[.slice none 0 0, .slice none 0 0] 25)) fun e w' => e = dies errB ∧ Rd rb (w.alloc (.cells #[.slice none 0 0, .slice none 0 0] 25)) w') :
    Calls Try.prog 75 #[.pointer (some ⟨rb, 0, none⟩)] w fun e w' => e = dies errB ∧ Rd rb w w' := by
  have HC := hid hc
  have HB0W : Hid (Rd rb w (w.alloc (.cells #[.slice none 0 0, .slice none 0 0] 25))) := Rd.of ((Below.refl w.heap.size w).alloc (Nat.le_refl _) _)
  clear hc
  go_enter Try.func75, Try.ntmps75
  go_wp2_with (first
    | (go_at_call 114; refine HC.out.mono ?_; rintro e w1 ⟨rfl, hw1⟩))
  exact ⟨rfl, rfl, HB0W.out.trans hw1⟩
set_option maxRecDepth 100000 in
set_option maxHeartbeats 1000000 in
theorem table_short {rb : Nat} {w : World} {c0 : UInt8} {xs r1 : List UInt8} {cs : List Cl} (h : RdAt rb w (c0 :: xs)) (hp : colsP c0.toNat xs = some (cs, r1)) (hcb : colsB cs = true) (hn2 : r1.length < 2) :
    Calls Try.prog 75 #[.pointer (some ⟨rb, 0, none⟩)] w fun e w' => e = dies errB ∧ Rd rb w w' := by
  have hlt := h.lt
  have hb0 := (Below.refl w.heap.size w).alloc (Nat.le_refl _) (.cells #[.slice none 0 0, .slice none 0 0] 25)
  have HX := hid (h.rd hb0)
  have HB0 := hid hb0
  have K0 := hid (alloc_block w (.cells #[.slice none 0 0, .slice none 0 0] 25))
  have HP := hid hp
  have HCB := hid hcb
  have HCL := hid (cols_parts hcb).1.2
  have HKD : Hid (∀ c ∈ cs, 1 ≤ c.kd ∧ c.kd ≤ 4) := fun c hc => ((cols_parts hcb).2 c hc).2
  clear h hp hcb hb0
  have HB0W : Hid (Rd rb w (w.alloc (.cells #[.slice none 0 0, .slice none 0 0] 25))) := Rd.of HB0.out
  have HN2 := hid hn2
  clear hn2
  go_enter Try.func75, Try.ntmps75
  go_wp2_with (first
    | (go_at_call 114; refine (cols_some HX.out HP.out HCB.out).mono ?_; rintro e w1 ⟨cv, rfl, hsl1, hr1, hw1⟩; have K1 := hid (hw1.on K0.out (by omega)); have HW1 := hid hw1; have HR1 := hid hr1; have HSL1 := hid hsl1; obtain ⟨pc, capc, rfl, -⟩ := hsl1; clear hr1 hw1)
    | (go_at_call 115; refine (count_short HR1.out HN2.out).mono ?_; rintro e w2 ⟨rfl, hw2⟩))
  exact ⟨rfl, rfl, (HB0W.out.trans HW1.out).trans hw2⟩
set_option maxRecDepth 100000 in
set_option maxHeartbeats 1000000 in
theorem table_long {rb : Nat} {w : World} {c0 : UInt8} {xs r1 : List UInt8} {cs : List Cl} (h : RdAt rb w (c0 :: xs)) (hp : colsP c0.toNat xs = some (cs, r1)) (hcb : colsB cs = true) (hn2 : 2 ≤ r1.length ∧ ¬ numB (r1.take 2) ≤ 4096) :
    Calls Try.prog 75 #[.pointer (some ⟨rb, 0, none⟩)] w fun e w' => e = dies errB ∧ Rd rb w w' := by
  have hlt := h.lt
  have hb0 := (Below.refl w.heap.size w).alloc (Nat.le_refl _) (.cells #[.slice none 0 0, .slice none 0 0] 25)
  have HX := hid (h.rd hb0)
  have HB0 := hid hb0
  have K0 := hid (alloc_block w (.cells #[.slice none 0 0, .slice none 0 0] 25))
  have HP := hid hp
  have HCB := hid hcb
  have HCL := hid (cols_parts hcb).1.2
  have HKD : Hid (∀ c ∈ cs, 1 ≤ c.kd ∧ c.kd ≤ 4) := fun c hc => ((cols_parts hcb).2 c hc).2
  clear h hp hcb hb0
  have HB0W : Hid (Rd rb w (w.alloc (.cells #[.slice none 0 0, .slice none 0 0] 25))) := Rd.of HB0.out
  have HN2 := hid hn2.1
  have HCNT := hid hn2.2
  clear hn2
  go_enter Try.func75, Try.ntmps75
  go_wp2_with (first
    | (go_at_call 114; refine (cols_some HX.out HP.out HCB.out).mono ?_; rintro e w1 ⟨cv, rfl, hsl1, hr1, hw1⟩; have K1 := hid (hw1.on K0.out (by omega)); have HW1 := hid hw1; have HR1 := hid hr1; have HSL1 := hid hsl1; obtain ⟨pc, capc, rfl, -⟩ := hsl1; clear hr1 hw1)
    | (go_at_call 115; refine (count_long HR1.out HN2.out (by have := HCNT.out; omega)).mono ?_; rintro e w2 ⟨rfl, hw2⟩))
  exact ⟨rfl, rfl, (HB0W.out.trans HW1.out).trans hw2⟩
set_option maxRecDepth 100000 in
set_option maxHeartbeats 1000000 in
theorem table_rows {rb : Nat} {w : World} {c0 : UInt8} {xs r1 : List UInt8} {cs : List Cl} (h : RdAt rb w (c0 :: xs)) (hp : colsP c0.toNat xs = some (cs, r1)) (hcb : colsB cs = true) (hn2 : 2 ≤ r1.length) (hcnt : numB (r1.take 2) ≤ 4096) (hrp : rowsP cs (numB (r1.take 2)).toNat (r1.drop 2) = none) :
    Calls Try.prog 75 #[.pointer (some ⟨rb, 0, none⟩)] w fun e w' => e = dies errB ∧ Rd rb w w' := by
  have hlt := h.lt
  have hb0 := (Below.refl w.heap.size w).alloc (Nat.le_refl _) (.cells #[.slice none 0 0, .slice none 0 0] 25)
  have HX := hid (h.rd hb0)
  have HB0 := hid hb0
  have K0 := hid (alloc_block w (.cells #[.slice none 0 0, .slice none 0 0] 25))
  have HP := hid hp
  have HCB := hid hcb
  have HCL := hid (cols_parts hcb).1.2
  have HKD : Hid (∀ c ∈ cs, 1 ≤ c.kd ∧ c.kd ≤ 4) := fun c hc => ((cols_parts hcb).2 c hc).2
  clear h hp hcb hb0
  have HN2 := hid hn2
  have hrg := numB_range (xs := r1.take 2) (by simp; omega)
  have hy4 := hcnt
  generalize hm : (numB (r1.take 2)).toNat = m at *
  have hy : numB (r1.take 2) = (m : Int) := by omega
  have HY := hid hy
  have HRP := hid hrp
  have hmk := make_heads m (by omega)
  have hm4 : m ≤ 4096 := by omega
  have HB0W : Hid (Rd rb w (w.alloc (.cells #[.slice none 0 0, .slice none 0 0] 25))) := Rd.of HB0.out
  clear hrp hn2 hcnt hm hy hrg
  go_enter Try.func75, Try.ntmps75
  go_wp2_with (first
    | (go_at_call 114; refine (cols_some HX.out HP.out HCB.out).mono ?_; rintro e w1 ⟨cv, rfl, hsl1, hr1, hw1⟩; have K1 := hid (hw1.on K0.out (by omega)); have HW1 := hid hw1; have HR1 := hid hr1; have HSL1 := hid hsl1; obtain ⟨pc, capc, rfl, -⟩ := hsl1; clear hr1 hw1)
    | (go_at_call 115; refine (count_yes HR1.out HN2.out hy4).mono ?_; rintro e w2 ⟨rfl, hr2, hw2⟩; rw [HY.out]; have K2 := hid (hw2.on K1.out (by omega)); have hlt2 : rb < w2.heap.size := (by have h1 := HW1.out.size; have h2 := hw2.size; rw [World.size_alloc] at h1; omega); have hL2 : w.heap.size < w2.heap.size := (by have h1 := HW1.out.size; have h2 := hw2.size; rw [World.size_alloc] at h1; omega); have HC2 := hid (SlAt.lowQ (SlAt.rdQ (SlAt.imp HSL1.out (Q' := fun b => b ≠ rb ∧ w.heap.size < b) (fun b hb => (by rw [World.size_alloc] at hb; constructor <;> omega))) (by decide) cl_len hw2 (fun b hb => hb.1)) (by decide) cl_len); have HS := hid (TabSt.start (m := m) hr2 HC2.out); have HW2 := hid ((HB0W.out.trans HW1.out).trans hw2); clear hr2 hw2))
  go_loopw [13] (fun i wr => ∃ (k : Nat) (hs : List Value) (dn : List Rw) (xk : List UInt8), k ≤ m ∧ i = .int .i64 k ∧ Hid (TabSt rb w.heap.size w2 m (.slice pc cs.length capc) cs k hs dn xk wr) ∧ Hid (rowsP cs (m - k) xk = none)) (fun i _ => m - (intOf i).toNat)
  case atStart => exact ⟨0, [], [], _, by omega, rfl, HS.out, HRP.out⟩
  case round =>
    obtain ⟨k, hs, dn, xk, hk, rfl, HR, HQ⟩ := hrel
    by_cases hkm : k < m
    · have hq := HQ.out
      rw [show m - k = (m - (k + 1)) + 1 by omega, rowsP_succ] at hq
      have HCW := hid (SlAt.imp HR.out.cols (Q' := fun b => b ≠ rb) (fun b hb => hb.1.1))
      cases ht : rowP cs xk with
      | none =>
        have HT := hid ht
        clear ht hq
        go_wp2_with (first
          | (go_at_call 116; refine (row_none HCW.out HCL.out HKD.out HR.out.rd HT.out).mono ?_; rintro e w3 ⟨rfl, hw3⟩))
        exact ⟨rfl, rfl, (HW2.out.trans HR.out.kept).trans hw3⟩
      | some qr =>
        obtain ⟨q, r2⟩ := qr
        rw [ht] at hq
        simp only at hq
        cases hq2 : rowsP cs (m - (k + 1)) r2 with
        | some qr2 => rw [hq2] at hq; cases hq
        | none =>
        have HQ2 := hid hq2
        have HT := hid ht
        clear hq2 ht hq
        go_wp2_with (first
          | (go_at_call 116; refine (row_some HCW.out HCL.out HR.out.rd HT.out).mono ?_; rintro e w3 ⟨rv, rfl, hq3, hr3, hw3⟩; obtain ⟨pq, capq, hrv, -⟩ := id hq3; subst hrv; have hf := HR.out.fill.rd hw3 (by omega); have d0 := hf.cell k (by omega); have f0 := hf.frozen; have HST := hid (HR.out.step hlt2 hkm hq3 hr3 hw3); obtain ⟨y0, d0⟩ := d0; clear hf hq3 hr3 hw3))
        go_roundw
        case rel => exact ⟨k + 1, _, dn ++ [q], r2, by omega, by go_num, HST.out, HQ2.out⟩
        case measure => simp [intOf]; omega
    · have hkm' : k = m := by omega
      subst hkm'
      have hq := HQ.out
      rw [Nat.sub_self] at hq
      cases hq
set_option maxRecDepth 100000 in
set_option maxHeartbeats 1000000 in
theorem table_more {rb : Nat} {w : World} {c0 : UInt8} {xs r1 : List UInt8} {cs : List Cl} {rs : List Rw} {r : List UInt8} (h : RdAt rb w (c0 :: xs)) (hp : colsP c0.toNat xs = some (cs, r1)) (hcb : colsB cs = true) (hn2 : 2 ≤ r1.length) (hcnt : numB (r1.take 2) ≤ 4096) (hrp : rowsP cs (numB (r1.take 2)).toNat (r1.drop 2) = some (rs, r)) (hne : r ≠ []) :
    Calls Try.prog 75 #[.pointer (some ⟨rb, 0, none⟩)] w fun e w' => e = dies errB ∧ Rd rb w w' := by
  have hlt := h.lt
  have hb0 := (Below.refl w.heap.size w).alloc (Nat.le_refl _) (.cells #[.slice none 0 0, .slice none 0 0] 25)
  have HX := hid (h.rd hb0)
  have HB0 := hid hb0
  have K0 := hid (alloc_block w (.cells #[.slice none 0 0, .slice none 0 0] 25))
  have HP := hid hp
  have HCB := hid hcb
  have HCL := hid (cols_parts hcb).1.2
  have HKD : Hid (∀ c ∈ cs, 1 ≤ c.kd ∧ c.kd ≤ 4) := fun c hc => ((cols_parts hcb).2 c hc).2
  clear h hp hcb hb0
  have HRE := hid hne
  clear hne
  have HN2 := hid hn2
  have hrg := numB_range (xs := r1.take 2) (by simp; omega)
  have hy4 := hcnt
  generalize hm : (numB (r1.take 2)).toNat = m at *
  have hy : numB (r1.take 2) = (m : Int) := by omega
  have HY := hid hy
  have HRP := hid hrp
  have hmk := make_heads m (by omega)
  have hm4 : m ≤ 4096 := by omega
  have HB0W : Hid (Rd rb w (w.alloc (.cells #[.slice none 0 0, .slice none 0 0] 25))) := Rd.of HB0.out
  clear hrp hn2 hcnt hm hy hrg
  go_enter Try.func75, Try.ntmps75
  go_wp2_with (first
    | (go_at_call 114; refine (cols_some HX.out HP.out HCB.out).mono ?_; rintro e w1 ⟨cv, rfl, hsl1, hr1, hw1⟩; have K1 := hid (hw1.on K0.out (by omega)); have HW1 := hid hw1; have HR1 := hid hr1; have HSL1 := hid hsl1; obtain ⟨pc, capc, rfl, -⟩ := hsl1; clear hr1 hw1)
    | (go_at_call 115; refine (count_yes HR1.out HN2.out hy4).mono ?_; rintro e w2 ⟨rfl, hr2, hw2⟩; rw [HY.out]; have K2 := hid (hw2.on K1.out (by omega)); have hlt2 : rb < w2.heap.size := (by have h1 := HW1.out.size; have h2 := hw2.size; rw [World.size_alloc] at h1; omega); have hL2 : w.heap.size < w2.heap.size := (by have h1 := HW1.out.size; have h2 := hw2.size; rw [World.size_alloc] at h1; omega); have HC2 := hid (SlAt.lowQ (SlAt.rdQ (SlAt.imp HSL1.out (Q' := fun b => b ≠ rb ∧ w.heap.size < b) (fun b hb => (by rw [World.size_alloc] at hb; constructor <;> omega))) (by decide) cl_len hw2 (fun b hb => hb.1)) (by decide) cl_len); have HS := hid (TabSt.start (m := m) hr2 HC2.out); have HW2 := hid ((HB0W.out.trans HW1.out).trans hw2); clear hr2 hw2))
  go_loopw [13] (fun i wr => ∃ (k : Nat) (hs : List Value) (dn qk : List Rw) (xk : List UInt8), k ≤ m ∧ i = .int .i64 k ∧ Hid (TabSt rb w.heap.size w2 m (.slice pc cs.length capc) cs k hs dn xk wr) ∧ Hid (rowsP cs (m - k) xk = some (qk, r)) ∧ Hid (dn ++ qk = rs)) (fun i _ => m - (intOf i).toNat)
  case atStart => exact ⟨0, [], [], rs, _, by omega, rfl, HS.out, HRP.out, rfl⟩
  case round =>
    obtain ⟨k, hs, dn, qk, xk, hk, rfl, HR, HQ, HD⟩ := hrel
    by_cases hkm : k < m
    · have hq := HQ.out
      rw [show m - k = (m - (k + 1)) + 1 by omega, rowsP_succ] at hq
      have HCW := hid (SlAt.imp HR.out.cols (Q' := fun b => b ≠ rb) (fun b hb => hb.1.1))
      cases ht : rowP cs xk with
      | none => rw [ht] at hq; cases hq
      | some qr =>
        obtain ⟨q, r2⟩ := qr
        rw [ht] at hq
        simp only at hq
        cases hq2 : rowsP cs (m - (k + 1)) r2 with
        | none => rw [hq2] at hq; cases hq
        | some qr2 =>
        obtain ⟨qs', r'⟩ := qr2
        rw [hq2] at hq
        simp only [Option.some.injEq, Prod.mk.injEq] at hq
        obtain ⟨hqa, hqb⟩ := hq
        subst hqa hqb
        have HQ2 := hid hq2
        have HT := hid ht
        clear hq2 ht
        go_wp2_with (first
          | (go_at_call 116; refine (row_some HCW.out HCL.out HR.out.rd HT.out).mono ?_; rintro e w3 ⟨rv, rfl, hq3, hr3, hw3⟩; obtain ⟨pq, capq, hrv, -⟩ := id hq3; subst hrv; have hf := HR.out.fill.rd hw3 (by omega); have d0 := hf.cell k (by omega); have f0 := hf.frozen; have HST := hid (HR.out.step hlt2 hkm hq3 hr3 hw3); obtain ⟨y0, d0⟩ := d0; clear hf hq3 hr3 hw3))
        go_roundw
        case rel => exact ⟨k + 1, _, dn ++ [q], qs', r2, by omega, by go_num, HST.out, HQ2.out, by show _ = rs; rw [← HD.out, List.append_assoc]; rfl⟩
        case measure => simp [intOf]; omega
    · have hkm' : k = m := by omega
      subst hkm'
      have hq := HQ.out
      rw [Nat.sub_self] at hq
      simp only [rowsP, Option.some.injEq, Prod.mk.injEq] at hq
      obtain ⟨hqa, hqb⟩ := hq
      subst hqa hqb
      have hdq : dn = rs := by rw [← HD.out, List.append_nil]
      have HDQ := hid hdq
      clear hdq
      obtain ⟨lv, hlv, hbat⟩ := HR.out.rd
      have kl := block_cell hlv
      obtain ⟨pl, cl, rfl, -⟩ := hbat
      clear hlv
      have KW := hid (HR.out.kept.on K2.out (by omega))
      have kw := block_cell KW.out
      have zw := block_frozen KW.out
      have hl0 : (xk.length == 0) = false := by rw [Bool.eq_false_iff]; intro e; exact HRE.out (List.eq_nil_of_length_eq_zero (beq_iff_eq.1 e))
      have hl0' : ((xk.length : Int) == 0) = false := by rw [Bool.eq_false_iff]; intro e; have := beq_iff_eq.1 e; exact HRE.out (List.eq_nil_of_length_eq_zero (by omega))
      go_wp2_with (first
        | (go_at_call 110; refine demand_false.mono ?_; rintro e w5 ⟨rfl, rfl⟩))
      exact ⟨rfl, rfl, HW2.out.trans HR.out.kept⟩
theorem tabP_cons (c : UInt8) (r : List UInt8) : tabP (c :: r) = (match colsP c.toNat r with | none => none | some (cs, r1) => if colsB cs = true then tailP cs r1 else none) := rfl
theorem tab_some {rb : Nat} {w : World} {xs : List UInt8} {cs : List Cl} {rs : List Rw} (h : RdAt rb w xs) (hp : tabP xs = some (cs, rs)) :
    Calls Try.prog 75 #[.pointer (some ⟨rb, 0, none⟩)] w fun e w' => ∃ v', e = .returned v' ∧ TabIn (fun b => w.heap.size < b) w' v' cs rs ∧ Rd rb w w' := by
  cases xs with
  | nil => cases hp
  | cons c0 r =>
    rw [tabP_cons] at hp
    split at hp
    · cases hp
    · rename_i ds r1 hc
      split at hp
      · rename_i hcb
        unfold tailP at hp
        split at hp
        · cases hp
        · split at hp
          · split at hp
            · rename_i hr
              cases hp
              exact table_some h hc hcb (by omega) (by assumption) hr
            · cases hp
          · cases hp
      · cases hp
theorem tab_none {rb : Nat} {w : World} {xs : List UInt8} (h : RdAt rb w xs) (hp : tabP xs = none) :
    Calls Try.prog 75 #[.pointer (some ⟨rb, 0, none⟩)] w fun e w' => e = dies errB ∧ Rd rb w w' := by
  have hb0 := (Below.refl w.heap.size w).alloc (Nat.le_refl _) (.cells #[.slice none 0 0, .slice none 0 0] 25)
  cases xs with
  | nil => exact table_dies (cols_empty (h.rd hb0))
  | cons c0 r =>
    rw [tabP_cons] at hp
    split at hp
    · rename_i hc; exact table_dies (cols_none (h.rd hb0) hc)
    · rename_i ds r1 hc
      split at hp
      · rename_i hcb
        unfold tailP at hp
        split at hp
        · exact table_short h hc hcb (by assumption)
        · split at hp
          · rename_i h2 h3
            cases hr : rowsP ds (numB (r1.take 2)).toNat (r1.drop 2) with
            | none => exact table_rows h hc hcb (by omega) h3 hr
            | some qr =>
              obtain ⟨rs, r'⟩ := qr
              cases r' with
              | nil => rw [hr] at hp; cases hp
              | cons a b => exact table_more h hc hcb (by omega) h3 hr (by simp)
          · rename_i h2 h3; exact table_long h hc hcb ⟨by omega, h3⟩
      · rename_i hcb
        exact table_dies (cols_bad (h.rd hb0) hc (by simpa using hcb))
end Go.Proofs.Ytjfholofgohcjaa
namespace Go.Proofs.Ytjfholofgohcjaa
open Go.RowKit Go.Sort Go.Shelf

theorem Rd.low {rb : Nat} {w w' : World} {o : Obj} (h : Rd rb (w.alloc o) w') (hr : rb = w.heap.size) : Below w.heap.size w w' :=
  ((Below.refl w.heap.size w).alloc (Nat.le_refl _) o).trans (h.below (by omega) (by rw [World.size_alloc]; omega))
theorem BAt.rd2 {rb : Nat} {w w' : World} {v : Value} {xs ys : List UInt8} (h : BAt w v xs) (hr : RdAt rb w ys) (hw : Rd rb w w') : BAt w' v xs :=
  let ⟨_, h1, h2⟩ := hr; h.rd h1 h2 hw
/- The frame's four steps. -/
def L4 (xs : List UInt8) : Nat := (numB (xs.take 4)).toNat
theorem number4 {rb : Nat} {w : World} {xs : List UInt8} (h : RdAt rb w xs) (hn : 4 ≤ xs.length) :
    Calls Try.prog 108 #[.pointer (some ⟨rb, 0, none⟩), .int .i64 4] w fun e w' => e = .returned (.int .i64 ((L4 xs : Nat) : Int)) ∧ RdAt rb w' (xs.drop 4) ∧ Rd rb w w' := by
  have h1 := number_yes (n := 4) h hn
  have hl : (xs.take 4).length = 4 := by simp; omega
  have hr := numB_range (xs := xs.take 4) (by omega)
  have e : numB (xs.take 4) = ((L4 xs : Nat) : Int) := by unfold L4; omega
  rw [e] at h1
  exact h1
set_option maxRecDepth 100000 in
set_option maxHeartbeats 1000000 in
theorem bodyOf_mid {v : Value} {xs : List UInt8} {w : World} (hv : BAt w v xs) (h4 : 4 ≤ xs.length) (hn : (xs.drop 4).length < L4 xs) :
    Calls Try.prog 74 #[v] w fun e w' => e = dies errB ∧ Below w.heap.size w w' := by
  have HR := hid (RdAt.start hv)
  have H4 := hid h4
  have HN := hid hn
  clear hn h4
  obtain ⟨p, cap, rfl, -⟩ := hv
  go_enter Try.func74, Try.ntmps74
  go_wp2_with (first
    | (go_at_call 108; refine (number4 HR.out H4.out).mono ?_; rintro e w1 ⟨rfl, hr1, hw1⟩; have HR1 := hid hr1; have HW1 := hid hw1; clear hr1 hw1)
    | (go_at_call 113; refine (bytes_no HR1.out HN.out).mono ?_; rintro e w2 ⟨rfl, rfl⟩))
  exact ⟨rfl, rfl, Rd.low HW1.out rfl⟩
set_option maxRecDepth 100000 in
set_option maxHeartbeats 1000000 in
theorem bodyOf_few {v : Value} {xs : List UInt8} {w : World} (hv : BAt w v xs) (h4 : 4 ≤ xs.length) (hn : L4 xs ≤ (xs.drop 4).length) (h5 : ((xs.drop 4).drop (L4 xs)).length < 4) :
    Calls Try.prog 74 #[v] w fun e w' => e = dies errB ∧ Below w.heap.size w w' := by
  have HR := hid (RdAt.start hv)
  have H4 := hid h4
  have HN := hid hn
  have H5 := hid h5
  clear hn h4 h5
  obtain ⟨p, cap, rfl, -⟩ := hv
  have M1 : Hid True := trivial
  go_enter Try.func74, Try.ntmps74
  go_wp2_with (first
    | (go_at_call 108; have FIRST := M1; refine (number4 HR.out H4.out).mono ?_; rintro e w1 ⟨rfl, hr1, hw1⟩; have HR1 := hid hr1; have HW1 := hid hw1; clear hr1 hw1 M1 FIRST)
    | (go_at_call 113; refine (bytes_yes HR1.out HN.out).mono ?_; rintro e w2 ⟨v2, rfl, hb2, hr2, hw2⟩; have HR2 := hid hr2; have HW2 := hid (HW1.out.trans hw2); have HB2 := hid hb2; clear hr2 hw2 hb2)
    | (go_at_call 108; refine (number_no (n := 4) HR2.out H5.out).mono ?_; rintro e w3 ⟨rfl, rfl⟩))
  exact ⟨rfl, rfl, Rd.low HW2.out rfl⟩
theorem number4' {rb : Nat} {w : World} {xs : List UInt8} (h : RdAt rb w xs) (hn : 4 ≤ xs.length) :
    Calls Try.prog 108 #[.pointer (some ⟨rb, 0, none⟩), .int .i64 4] w fun e w' => e = .returned (.int .i64 (numB (xs.take 4))) ∧ RdAt rb w' (xs.drop 4) ∧ Rd rb w w' := number_yes (n := 4) h hn
set_option maxRecDepth 100000 in
set_option maxHeartbeats 1000000 in
theorem bodyOf_more {v : Value} {xs : List UInt8} {w : World} (hv : BAt w v xs) (h4 : 4 ≤ xs.length) (hn : L4 xs ≤ (xs.drop 4).length) (h5 : 4 < ((xs.drop 4).drop (L4 xs)).length) :
    Calls Try.prog 74 #[v] w fun e w' => e = dies errB ∧ Below w.heap.size w w' := by
  have HR := hid (RdAt.start hv)
  have H4 := hid h4
  have HN := hid hn
  have H5 := hid h5
  have h6 : 0 < (((xs.drop 4).drop (L4 xs)).drop 4).length := by rw [List.length_drop]; omega
  have H6 := hid h6
  clear hn h4 h5 h6
  obtain ⟨p, cap, rfl, -⟩ := hv
  have M1 : Hid True := trivial
  generalize hrest : (xs.drop 4).drop (L4 xs) = rest at *
  have HRE := hid hrest
  clear hrest
  go_enter Try.func74, Try.ntmps74
  go_wp2_with (first
    | (go_at_call 108; have FIRST := M1; refine (number4 HR.out H4.out).mono ?_; rintro e w1 ⟨rfl, hr1, hw1⟩; have HR1 := hid hr1; have HW1 := hid hw1; clear hr1 hw1 M1 FIRST)
    | (go_at_call 113; refine (bytes_yes HR1.out HN.out).mono ?_; rintro e w2 ⟨v2, rfl, hb2, hr2, hw2⟩; rw [HRE.out] at hr2; have HR2 := hid hr2; have HW2 := hid (HW1.out.trans hw2); have HB2 := hid hb2; clear hr2 hw2 hb2)
    | (go_at_call 108; refine (number4' HR2.out (Nat.le_of_lt H5.out)).mono ?_; rintro e w3 ⟨rfl, hr3, hw3⟩; have HW3 := hid (HW2.out.trans hw3); obtain ⟨lv, hlv, hbat⟩ := hr3; have kl := block_cell hlv; obtain ⟨pl, cl, rfl, -⟩ := hbat; generalize hll : (rest.drop 4).length = ll at *; have HLL := hid hll; have hl0 : (ll == 0) = false := (by rw [Bool.eq_false_iff]; intro e; have := beq_iff_eq.1 e; have := H6.out; omega); have hl0' : ((ll : Int) == 0) = false := (by rw [Bool.eq_false_iff]; intro e; have := beq_iff_eq.1 e; have := H6.out; omega); clear hlv hw3 hll)
    | (go_at_call 110; refine demand_false.mono ?_; rintro e w4 ⟨rfl, rfl⟩))
  exact ⟨rfl, rfl, Rd.low HW3.out rfl⟩
set_option maxRecDepth 100000 in
set_option maxHeartbeats 1000000 in
theorem bodyOf_sum {v : Value} {xs : List UInt8} {w : World} {ok : Bool} (hv : BAt w v xs) (h4 : 4 ≤ xs.length) (hn : L4 xs ≤ (xs.drop 4).length) (h5 : ((xs.drop 4).drop (L4 xs)).length = 4) (hok : decide (numB ((xs.drop 4).drop (L4 xs)) = u (sum ((xs.drop 4).take (L4 xs)))) = ok) :
    Calls Try.prog 74 #[v] w fun e w' => (if ok = true then (∃ v', e = .returned v' ∧ BAt w' v' ((xs.drop 4).take (L4 xs))) else e = dies errB) ∧ Below w.heap.size w w' := by
  have HR := hid (RdAt.start hv)
  have H4 := hid h4
  have HN := hid hn
  have H5 := hid h5
  have h6 : (((xs.drop 4).drop (L4 xs)).drop 4).length = 0 := by rw [List.length_drop]; omega
  have h7 : ((xs.drop 4).drop (L4 xs)).take 4 = (xs.drop 4).drop (L4 xs) := List.take_of_length_le (by omega)
  have H6 := hid h6
  have H7 := hid h7
  clear hn h4 h5 h6 h7
  obtain ⟨p, cap, rfl, -⟩ := hv
  have M1 : Hid True := trivial
  generalize hrest : (xs.drop 4).drop (L4 xs) = rest at *
  generalize hbody : (xs.drop 4).take (L4 xs) = body at *
  have HRE := hid hrest
  have HBO := hid hbody
  clear hrest hbody
  have hr0 := u_range (sum body)
  have hr1 : u (sum body) ≤ 4294967295 := by omega
  have hr2 := hr0.1
  clear hr0
  generalize hsm : u (sum body) = sm at *
  have HSM := hid hsm
  clear hsm
  have hwr : wrap64 sm = sm := by unfold wrap64; omega
  have HOK := hid hok
  generalize hnm : numB rest = nm at *
  have HNM := hid hnm
  clear hnm
  have hbq : (nm == sm) = ok := by rw [← hok]; rw [Bool.eq_iff_iff]; simp
  clear hok
  cases ok with
  | true =>
    go_enter Try.func74, Try.ntmps74
    go_wp2_with (first
      | (go_at_call 108; have FIRST := M1; refine (number4 HR.out H4.out).mono ?_; rintro e w1 ⟨rfl, hr1, hw1⟩; have HR1 := hid hr1; have HW1 := hid hw1; clear hr1 hw1 M1 FIRST)
      | (go_at_call 113; refine (bytes_yes HR1.out HN.out).mono ?_; rintro e w2 ⟨v2, rfl, hb2, hr2, hw2⟩; rw [HRE.out] at hr2; rw [HBO.out] at hb2; have HR2 := hid hr2; have HW2 := hid (HW1.out.trans hw2); have HB2 := hid hb2; obtain ⟨p2, c2, rfl, -⟩ := hb2; clear hr2 hw2)
      | (go_at_call 108; refine (number4' HR2.out (Nat.le_of_eq H5.out.symm)).mono ?_; rintro e w3 ⟨rfl, hr3, hw3⟩; rw [H7.out, HNM.out]; have HW3 := hid (HW2.out.trans hw3); have HB3 := hid (HB2.out.rd2 HR2.out hw3); obtain ⟨lv, hlv, hbat⟩ := hr3; have kl := block_cell hlv; obtain ⟨pl, cl, rfl, -⟩ := hbat; rw [H6.out] at kl; clear hlv hw3)
      | (go_at_call 110; have FIRST := HB2; refine demand_true.mono ?_; rintro e w4 ⟨rfl, rfl⟩; clear HB2 FIRST)
      | (go_at_call 70; refine (sum_any HB3.out).mono ?_; rintro e w5 ⟨rfl, rfl⟩; rw [HSM.out])
      | (go_at_call 110; refine demand_true.mono ?_; rintro e w6 ⟨rfl, rfl⟩))
    go_ret
    exact ⟨⟨_, rfl, HB3.out⟩, Rd.low HW3.out rfl⟩
  | false =>
    go_enter Try.func74, Try.ntmps74
    go_wp2_with (first
      | (go_at_call 108; have FIRST := M1; refine (number4 HR.out H4.out).mono ?_; rintro e w1 ⟨rfl, hr1, hw1⟩; have HR1 := hid hr1; have HW1 := hid hw1; clear hr1 hw1 M1 FIRST)
      | (go_at_call 113; refine (bytes_yes HR1.out HN.out).mono ?_; rintro e w2 ⟨v2, rfl, hb2, hr2, hw2⟩; rw [HRE.out] at hr2; rw [HBO.out] at hb2; have HR2 := hid hr2; have HW2 := hid (HW1.out.trans hw2); have HB2 := hid hb2; obtain ⟨p2, c2, rfl, -⟩ := hb2; clear hr2 hw2)
      | (go_at_call 108; refine (number4' HR2.out (Nat.le_of_eq H5.out.symm)).mono ?_; rintro e w3 ⟨rfl, hr3, hw3⟩; rw [H7.out, HNM.out]; have HW3 := hid (HW2.out.trans hw3); have HB3 := hid (HB2.out.rd2 HR2.out hw3); obtain ⟨lv, hlv, hbat⟩ := hr3; have kl := block_cell hlv; obtain ⟨pl, cl, rfl, -⟩ := hbat; rw [H6.out] at kl; clear hlv hw3)
      | (go_at_call 110; have FIRST := HB2; refine demand_true.mono ?_; rintro e w4 ⟨rfl, rfl⟩; clear HB2 FIRST)
      | (go_at_call 70; refine (sum_any HB3.out).mono ?_; rintro e w5 ⟨rfl, rfl⟩; rw [HSM.out])
      | (go_at_call 110; refine demand_false.mono ?_; rintro e w6 ⟨rfl, rfl⟩))
    exact ⟨rfl, rfl, Rd.low HW3.out rfl⟩
theorem bodyOf_some {v : Value} {xs b : List UInt8} {w : World} (hv : BAt w v xs) (h : bodyS xs = some b) : Calls Try.prog 74 #[v] w fun e w' => (∃ v', e = .returned v' ∧ BAt w' v' b) ∧ Below w.heap.size w w' := by
  unfold bodyS at h
  split at h
  · cases h
  · split at h
    · cases h
    · split at h
      · cases h
      · split at h
        · cases h
        · split at h
          · rename_i h1 h2 h3 h4 h5
            cases h
            exact (bodyOf_sum (ok := true) hv (by omega) (by unfold L4; omega) (by unfold L4; omega) (decide_eq_true h5)).mono fun e w' hh => by simp only [if_true] at hh; exact hh
          · cases h
theorem bodyOf_none {v : Value} {xs : List UInt8} {w : World} (hv : BAt w v xs) (h : bodyS xs = none) : Calls Try.prog 74 #[v] w fun e w' => e = dies errB ∧ Below w.heap.size w w' := by
  unfold bodyS at h
  split at h
  · exact bodyOf_short hv (by assumption)
  · split at h
    · exact bodyOf_mid hv (by omega) (by unfold L4; assumption)
    · split at h
      · exact bodyOf_few hv (by omega) (by unfold L4; omega) (by unfold L4; assumption)
      · split at h
        · exact bodyOf_more hv (by omega) (by unfold L4; omega) (by unfold L4; omega)
        · split at h
          · cases h
          · rename_i h1 h2 h3 h4 h5
            exact (bodyOf_sum (ok := false) hv (by omega) (by unfold L4; omega) (by unfold L4; omega) (decide_eq_false h5)).mono fun e w' hh => by simpa using hh
theorem blk_a {w : World} {b : Nat} {o : Obj} (h : w.heap[b]? = some o) (x : Obj) : (w.alloc x).heap[b]? = some o := block_on h ((Below.refl _ _).alloc (Nat.le_refl _) x)
theorem TabIn.rdQ {Q : Nat → Prop} {rb : Nat} {w w' : World} {v : Value} {cs : List Cl} {rs : List Rw} (h : TabIn Q w v cs rs) (hw : Rd rb w w') (hq : ∀ b, Q b → b ≠ rb) : TabIn Q w' v cs rs :=
  let ⟨c, r, h0, h1, hs, h2, h3⟩ := h; ⟨c, r, h0, h1.rdQ (by decide) cl_len hw hq, hs, h2.rdQ (by decide) one_len hw hq, h3.rdQ hw hq⟩
/- Decode's three blocks: the table's, the error's, the reader's. -/
abbrev decW (w : World) : World := (w.alloc (.cells #[.slice none 0 0, .slice none 0 0] 25)).alloc (.cells #[.int .i64 0] 28)
theorem decW_0 (w : World) : (decW w).heap[w.heap.size]? = some (.cells #[.slice none 0 0, .slice none 0 0] 25) := by
  rw [Below.heap_alloc _ _ _ (by simp)]; exact alloc_block w _
theorem decW_1 (w : World) : (decW w).heap[w.heap.size + 1]? = some (.cells #[.int .i64 0] 28) := by
  have := alloc_block (w.alloc (.cells #[.slice none 0 0, .slice none 0 0] 25)) (.cells #[.int .i64 0] 28)
  rw [World.size_alloc] at this; exact this
theorem decW_b (w : World) : Below w.heap.size w (decW w) := ((Below.refl _ w).alloc (Nat.le_refl _) _).alloc (by simp) _
set_option maxRecDepth 100000 in
set_option maxHeartbeats 1000000 in
theorem decode_bad {v : Value} {xs b : List UInt8} {w : World} (hv : BAt w v xs) (h : bodyS xs = some b) (ht : tabP b = none) :
    Calls Try.prog 28 #[v] w fun e w' => e = .returned (.tuple #[.agg #[.slice none 0 0, .slice none 0 0], .int .i64 40]) ∧ Below w.heap.size w w' := by
  have H1 := hid (decW_0 w)
  have H2 := hid (decW_1 w)
  have HB := hid (decW_b w)
  have HC := hid (bodyOf_some (hv.on HB.out) h)
  have HT := hid ht
  obtain ⟨p, cap, rfl, -⟩ := hv
  clear h ht
  have hmf : ∀ (fn : Fn) (first cap : Array Value) (w : World), (Instr.makeFunc fn first cap).run Try.prog w = .ok (.func fn first cap) w := fun _ _ _ _ => rfl
  go_enter_defers Try.func28, Try.ntmps28
  go_wp2_with (first
    | (go_at_call 74; refine HC.out.mono ?_; rintro e w1 ⟨⟨v1, rfl, hbat1⟩, hb1⟩; have K0 := hid (block_on H1.out hb1); have K1 := hid (block_on H2.out hb1); have HB1 := hid (HB.out.trans (hb1.mono HB.out.size)); have HR := hid (RdAt.start hbat1); have l1 := lt_of_block K1.out; obtain ⟨p1, c1, rfl, -⟩ := hbat1; clear hb1)
    | (go_at_call 75; refine (tab_none HR.out HT.out).mono ?_; rintro e w2 ⟨rfl, hw2⟩))
  have K0' := hw2.on (blk_a K0.out _) (by omega)
  have K1' := hw2.on (blk_a K1.out _) (by omega)
  have hb2 : Below w.heap.size w w2 := HB1.out.trans ((Rd.low hw2 rfl).mono HB1.out.size)
  have hb3 : Below w.heap.size w (w2.setCell ⟨w.heap.size + 1, 0, none⟩ (.int .i64 40)) := hb2.setCell (by simp) _
  have k0 := (set_rd w2 (w.heap.size + 1) 0 (.int .i64 40)).on K0' (by omega)
  have k1 := set_block (i := 0) K1' (.int .i64 40)
  refine leaves_cons (f := 73) (args := #[.pointer (some ⟨w.heap.size + 1, 0, none⟩)]) (by simp) (by simp [go_sem]) ?_
  refine (catch_panicking' (x := 0) ((block_cell K1' 0).trans rfl) (block_frozen K1' 0)).mono ?_
  rintro e u' w'' ⟨rfl, rfl, rfl⟩
  generalize World.setCell _ _ _ = W at *
  have c0 := block_cell k0
  have c1 := block_cell k1
  simp [Leaves, settle, results, Try.results28, go_sem, c0, c1, hb3]
set_option maxRecDepth 100000 in
set_option maxHeartbeats 1000000 in
theorem decode_good {v : Value} {xs b : List UInt8} {w : World} {cs : List Cl} {rs : List Rw} (hv : BAt w v xs) (h : bodyS xs = some b) (ht : tabP b = some (cs, rs)) :
    Calls Try.prog 28 #[v] w fun e w' => ∃ v', e = .returned (.tuple #[v', .int .i64 0]) ∧ TabAt w' v' cs rs ∧ Below w.heap.size w w' := by
  have H1 := hid (decW_0 w)
  have H2 := hid (decW_1 w)
  have HB := hid (decW_b w)
  have HC := hid (bodyOf_some (hv.on HB.out) h)
  have HT := hid ht
  obtain ⟨p, cap, rfl, -⟩ := hv
  clear h ht
  have hmf : ∀ (fn : Fn) (first cap : Array Value) (w : World), (Instr.makeFunc fn first cap).run Try.prog w = .ok (.func fn first cap) w := fun _ _ _ _ => rfl
  go_enter_defers Try.func28, Try.ntmps28
  go_wp2_with (first
    | (go_at_call 74; refine HC.out.mono ?_; rintro e w1 ⟨⟨v1, rfl, hbat1⟩, hb1⟩; have K0 := hid (block_on H1.out hb1); have K1 := hid (block_on H2.out hb1); have HB1 := hid (HB.out.trans (hb1.mono HB.out.size)); have HR := hid (RdAt.start hbat1); have l1 := lt_of_block K1.out; obtain ⟨p1, c1, rfl, -⟩ := hbat1; clear hb1)
    | (go_at_call 75; refine (tab_some HR.out HT.out).mono ?_; rintro e w2 ⟨v2, rfl, hT2, hw2⟩; have K0' := hid (hw2.on (blk_a K0.out _) (by omega)); have K1' := hid (hw2.on (blk_a K1.out _) (by omega)); have HB2 := hid (HB1.out.trans ((Rd.low hw2 rfl).mono HB1.out.size)); have HT2 := hid (hT2.imp (Q' := fun b => w.heap.size + 1 < b) (fun b hb => (by rw [World.size_alloc] at hb; omega))); obtain ⟨cc, rr, hv2, hcc, hs2, hrr, -⟩ := hT2; subst hv2; obtain ⟨pc, capc, rfl, -⟩ := hcc; obtain ⟨pr, capr, rfl, -⟩ := hrr; have k0 := block_cell K0'.out; have z0 := block_frozen K0'.out; have k1 := block_cell K1'.out; have z1 := block_frozen K1'.out; clear hw2))
  have hset := fun (c r : Value) => (set_rd w2 w.heap.size 0 c).trans (set_rd (w2.setCell ⟨w.heap.size, 0, none⟩ c) w.heap.size 1 r)
  have hset' := fun (W : World) (z : Value) => set_rd W (w.heap.size + 1) 0 z
  have hTf := (HT2.out.rdQ (hset (.slice pc cs.length capc) (.slice pr hs2.length capr)) (fun b hb => by omega)).rdQ (hset' _ (.int .i64 0)) (fun b hb => by omega)
  have h0f := (hset' _ (.int .i64 0)).on (set_block (i := 1) (set_block (i := 0) K0'.out (.slice pc cs.length capc)) (.slice pr hs2.length capr)) (show w.heap.size ≠ w.heap.size + 1 by omega)
  have h1f := set_block (i := 0) ((hset (.slice pc cs.length capc) (.slice pr hs2.length capr)).on K1'.out (show w.heap.size + 1 ≠ w.heap.size by omega)) (.int .i64 0)
  have hbf := ((HB2.out.setCell (p := ⟨w.heap.size, 0, none⟩) (by simp) (.slice pc cs.length capc)).setCell (p := ⟨w.heap.size, 1, none⟩) (by simp) (.slice pr hs2.length capr)).setCell (p := ⟨w.heap.size + 1, 0, none⟩) (by simp) (.int .i64 0)
  have HTF := hid hTf
  have H0F := hid h0f
  have H1F := hid h1f
  have HBF := hid hbf
  clear hTf h0f h1f hbf hset k0 z0 k1 z1
  generalize World.setCell _ _ _ = WF at *
  have ke := block_cell H1F.out
  have ze := block_frozen H1F.out
  refine leaves_cons (f := 73) (args := #[.pointer (some ⟨w.heap.size + 1, 0, none⟩)]) (by simp) (by simp [go_sem]) ?_
  refine (catch_idle' (x := 0) ((ke 0).trans rfl) (ze 0)).mono ?_
  rintro e u' w'' ⟨rfl, rfl, rfl⟩
  have hTg := HTF.out.rdQ (hset' WF (.int .i64 0)) (fun b hb => by omega)
  have h0g := (hset' WF (.int .i64 0)).on H0F.out (show w.heap.size ≠ w.heap.size + 1 by omega)
  have h1g := set_block (i := 0) H1F.out (.int .i64 0)
  have hbg := HBF.out.setCell (p := ⟨w.heap.size + 1, 0, none⟩) (by simp) (.int .i64 0)
  clear ke ze HTF H0F H1F HBF hset'
  generalize World.setCell _ _ _ = WG at *
  have c0 := block_cell h0g
  have c1 := block_cell h1g
  simp [Leaves, settle, results, Try.results28, go_sem, c0, c1]
  exact ⟨hTg.at, hbg⟩
theorem dec_some {v : Value} {xs : List UInt8} {w : World} {cs : List Cl} {rs : List Rw} (hv : BAt w v xs) (h : decS xs = some (cs, rs)) :
    Calls Try.prog 28 #[v] w fun e w' => ∃ v', e = .returned (.tuple #[v', .int .i64 0]) ∧ TabAt w' v' cs rs ∧ Below w.heap.size w w' := by
  unfold decS at h
  split at h
  · cases h
  · rename_i b hb; exact decode_good hv hb h
theorem dec_none {v : Value} {xs : List UInt8} {w : World} (hv : BAt w v xs) (h : decS xs = none) :
    Calls Try.prog 28 #[v] w fun e w' => e = .returned (.tuple #[.agg #[.slice none 0 0, .slice none 0 0], .int .i64 40]) ∧ Below w.heap.size w w' := by
  unfold decS at h
  split at h
  · rename_i hb; exact decode_dies fun _ hl => bodyOf_none (hv.on hl) hb
  · rename_i b hb; exact decode_bad hv hb h
end Go.Proofs.Ytjfholofgohcjaa
