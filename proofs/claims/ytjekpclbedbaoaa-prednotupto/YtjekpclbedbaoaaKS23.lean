/-
  The reference's reader takes aggregates: what it keeps.
  The reference's reader takes aggregates.
  The reference's reader takes a query: mathematics.
  The reference's reader takes a query.
  The reference's reader takes a step: what is kept, and mathematics.
  The reference's step: where.
  The reference's step: keep, align.
  The reference's step: top, and what is none.
  The reference's step: what is none, and group.
  The reference's step: join, union.
  The reference's reader: any step, any query, at any depth.
  The reference's reader: what is answered at the end.
-/
import Derived.Test.YtjekpclbedbaoaaKS22
import Derived.Deep.RegionLaw
namespace Go.Proofs.Ytjekpclbedbaoaa
open Go.RowKit Go.Joins

abbrev agC : Array Value := #[.string ⟨#[]⟩, .string ⟨#[99, 111, 117, 110, 116]⟩, .string ⟨#[115, 117, 109]⟩, .string ⟨#[109, 105, 110]⟩, .string ⟨#[109, 97, 120]⟩, .string ⟨#[109, 101, 97, 110]⟩, .string ⟨#[109, 101, 114, 103, 101]⟩]
theorem agC_at (k : Nat) (h1 : 1 ≤ k) (h : k < 7) : agC[k]? = some (.string (St (aggW.getD (k - 1) []))) := by
  match k, h1, h with
  | 1, _, _ => rfl
  | 2, _, _ => rfl
  | 3, _, _ => rfl
  | 4, _, _ => rfl
  | 5, _, _ => rfl
  | 6, _, _ => rfl
section
variable {B : Nat} {ts : List Tp} {w w' wr : World} {rb : Nat} {tv sv : Value} {E E' Ej : Int} {o o' i j j' : Nat} {qs : List Nd} {sg : Nat} {u : Value} {acc : List (Int × List UInt8)}
structure Ag (B : Nat) (ts : List Tp) (w : World) (rb : Nat) (tv sv : Value) (E : Int) (o j : Nat) (qs : List Nd) (sg : Nat) (u : Value) (acc : List (Int × List UInt8)) (wr : World) : Prop where
  r : Ry B ts wr rb tv sv E o j qs
  ow : Own ag2 2 184 w.heap.size wr u acc
  k : Kp (fun k => k = rb) w wr
  b : wr.heap[sg]? = some (.cells agC 9)
  n : w.heap.size ≤ sg
  l : rb < w.heap.size
theorem Ag.ne (h : Ag B ts w rb tv sv E o j qs sg u acc wr) : sg ≠ rb := by have := h.n; have := h.l; omega
theorem Ag.y1 (h : Ag B ts w rb tv sv E o j qs sg u acc wr) (hk : Kp (fun k => k = rb) wr w') (hr : Ry B ts w' rb tv sv E' o' j' qs) : Ag B ts w rb tv sv E' o' j' qs sg u acc w' :=
  ⟨hr, h.ow.rdy h.r hk (by decide), h.k.trans hk, hk.blk h.b h.ne, h.n, h.l⟩
theorem Ag.on (h : Ag B ts w rb tv sv E o j qs sg u acc wr) (hb : Below wr.heap.size wr w') : Ag B ts w rb tv sv E o j qs sg u acc w' := h.y1 (Kp.of hb) (h.r.on hb)
theorem Ag.new {T : Nat → Prop} (h : Ag B ts w rb tv sv E o j qs sg u acc wr) (hk : Kp T wr w') (hT : ∀ k, T k → w.heap.size ≤ k) (hs : ¬ T sg) {v : Value} {acc' : List (Int × List UInt8)} (ho : Own ag2 2 184 w.heap.size w' v acc') (hr : Ry B ts w' rb tv sv E o j qs) : Ag B ts w rb tv sv E o j qs sg v acc' w' :=
  ⟨hr, ho, h.k.trans' hk (fun i hi e => by have := hT i e; omega), hk.blk h.b hs, h.n, h.l⟩
theorem Ag.app {w7 : World} {E0 : Int} {o0 i0 : Nat} {v : Value} {acc' : List (Int × List UInt8)} (h0 : Ry B ts w rb tv sv E0 o0 i0 qs) (h : Ag B ts w rb tv sv E o j qs sg u acc wr) (hb : Below wr.heap.size wr w') (hg : w'.grownBy w7 u.ownBlock) (ho : Own ag2 2 184 w.heap.size w7 v acc') : Ag B ts w rb tv sv E o j qs sg v acc' w7 := by
  have k7 : Kp (fun k => w.heap.size ≤ k) wr w7 := (Kp.of hb).trans (Kp.grown hg (fun k e => (h.ow.at e).1))
  obtain ⟨a, b⟩ := Ry.backN h0 h.r h.k k7
  exact ⟨a, ho, b, (Kp.grown (T := fun k => u.ownBlock = some k) hg (fun k e => e)).blk (block_on h.b hb) (fun e => by obtain ⟨c, fz, hc⟩ := h.ow.kind e; rw [h.b] at hc; cases hc), h.n, h.l⟩
theorem Ag.box {E0 : Int} {o0 i0 ab c : Nat} {v : Value} (h0 : Ry B ts w rb tv sv E0 o0 i0 qs) (h : Ag B ts w rb tv sv E o j qs sg u acc wr) (hab : w.heap.size ≤ ab) (hu : ∀ g, u.ownBlock = some g → g ≠ ab) (hs : sg ≠ ab) : Ag B ts w rb tv sv E o j qs sg u acc (wr.setCell ⟨ab, c, none⟩ v) := by
  obtain ⟨a, b⟩ := Ry.backN h0 h.r h.k (Kp.set (T := fun k => w.heap.size ≤ k) (b := ab) (i := c) hab v)
  have ks : Kp (fun k => k = ab) wr (wr.setCell ⟨ab, c, none⟩ v) := Kp.set (T := fun k => k = ab) rfl v
  exact ⟨a, h.ow.kp ks hu, b, ks.blk h.b hs, h.n, h.l⟩
theorem Ag.own_lt (h : Ag B ts w rb tv sv E o j qs sg u acc wr) : ∀ g, u.ownBlock = some g → g ≠ wr.heap.size := fun g hg e => by have h1 : g < wr.heap.size := (h.ow.at hg).2; omega
/- Mathematics: one round. -/
def InvA (ts : List Tp) (E : Int) (i f : Nat) (acc : List (Int × List UInt8)) (Ej : Int) (j : Nat) : Prop :=
  ∀ y k E', Cm (lf Ej j ((aggS ts j).and fun x j' => moreS ts (aggS ts) f (acc ++ [x]) j')) y k E' → Cm (lf E i (listS ts (aggS ts) i)) y k E'
theorem inva_start : InvA ts E i ts.length [] E i := fun _ _ _ h => h
/- None of the words stands there. -/
theorem inva_none {f : Nat} (h : InvA ts E i f acc Ej j) (hn : ∀ m, m < 6 → isE Ej ts j (aggW.getD m []) = false) (y : List (Int × List UInt8)) : Cm (lf E i (listS ts (aggS ts) i)) y j (erS Ej 120) := by
  apply h
  by_cases hE : Ej = 0
  · subst hE
    have e : aggS ts j = .bad j 120 := by
      unfold aggS oneOfS
      rw [idx_nil aggW 0 (fun m hm => isE_false (hn m hm) rfl)]; rfl
    rw [e]; exact erS_lf
  · have : erS Ej 120 = Ej := if_neg hE
    rw [this]; exact lf_bad hE
/- A word stands there. -/
theorem agg_at {k : Nat} (hk : 1 ≤ k) (hk7 : k < 7) (hn : ∀ m, m < k - 1 → isE 0 ts j (aggW.getD m []) = false) (hy : isW ts j (aggW.getD (k - 1) []) = true) : aggS ts j = if k = 1 then .ok (1, []) (j + 1) else (nameS ts (j + 1)).and fun x j => .ok ((k : Int), x) j := by
  unfold aggS oneOfS
  rw [idx_first aggW 0 (k - 1) (by show k - 1 < 6; omega) (fun m hm => isE_false (hn m hm) rfl) hy, Nat.zero_add]
  simp only [Rs.and]
  by_cases h : k = 1
  · subst h; rfl
  · rw [if_neg h, if_neg (by omega)]
    have e : (1 : Int) + ((k - 1 : Nat) : Int) = (k : Int) := by omega
    rw [e]
/- Behind a whole aggregate. -/
theorem inva_next {f j2 : Nat} {x : Int × List UInt8} {E2 : Int} (h : InvA ts E i f acc 0 j) (ha : Cm (aggS ts j) x j2 E2) (hw : isE E2 ts j2 wComma = true) (hf : ts.length ≤ f + j) (hj : j < j2) : ∃ f', f = f' + 1 ∧ InvA ts E i f' (acc ++ [x]) 0 (j2 + 1) := by
  have hE := isE_E hw
  subst hE
  have hl := isE_lt hw
  obtain ⟨f', rfl⟩ : ∃ f', f = f' + 1 := ⟨f - 1, by omega⟩
  refine ⟨f', rfl, fun y k E' hy => h y k E' ?_⟩
  have e : aggS ts j = .ok x j2 := by rcases ha with ⟨-, h⟩ | ⟨h, -⟩; exact absurd rfl h; exact h
  unfold lf at hy ⊢
  rw [if_pos rfl] at hy ⊢
  rw [e]
  show Cm (moreS ts (aggS ts) (f' + 1) (acc ++ [x]) j2) y k E'
  rw [moreS, if_pos (isE_W hw)]; exact hy
theorem inva_end {f j2 : Nat} {x : Int × List UInt8} {E2 : Int} (h : InvA ts E i f acc 0 j) (ha : Cm (aggS ts j) x j2 E2) (hw : isE E2 ts j2 wComma = false) : Cm (lf E i (listS ts (aggS ts) i)) (acc ++ [x]) j2 E2 := by
  apply h
  unfold lf; rw [if_pos rfl]
  refine ha.and ?_
  by_cases hE : E2 = 0
  · subst hE
    refine .inr ⟨?_, rfl⟩
    unfold lf; rw [if_pos rfl]
    cases f with
    | zero => rfl
    | succ f => rw [moreS, if_neg (by rw [isE_false hw rfl]; decide)]
  · exact lf_bad hE
end
end Go.Proofs.Ytjekpclbedbaoaa
namespace Go.Proofs.Ytjekpclbedbaoaa
open Go.RowKit Go.Joins

section
variable {B : Nat} {ts : List Tp} {w w' : World} {rb : Nat} {tv sv : Value} {E : Int} {o i : Nat} {qs : List Nd}
theorem ris_is (h : Ry B ts w rb tv sv E o i qs) {x : List UInt8} {b : Bool} (hx : isE E ts i x = b) : Calls Try.prog 72 #[dp rb, .string (St x)] w fun e w' => e = .returned (.bool b) ∧ Below w.heap.size w w' := by
  rw [← hx]; exact ris_any h x
theorem take_gt {k : Int} {t : Tp} {j2 : Nat} {E2 : Int} {j : Nat} (h : Cm (lf 0 (j + 1) (takeS ts k (j + 1))) t j2 E2) : j < j2 := by have := take_lf h; omega
end
end Go.Proofs.Ytjekpclbedbaoaa
namespace Go.Proofs.Ytjekpclbedbaoaa
open Go.RowKit Go.Joins

theorem and_assoc' {α β γ : Type} (r : Rs α) (f : α → Nat → Rs β) (g : β → Nat → Rs γ) : (r.and f).and g = r.and fun x j => (f x j).and g := by cases r <;> rfl
theorem Cm.nm {ts : List Tp} {t : Tp} {i j : Nat} {E E' : Int} (h : Cm (lf E i (takeS ts 1 i)) t j E') : Cm (lf E i (nameS ts i)) t.s j E' := h.map (g := fun t : Tp => t.s)
theorem Cm.nu {ts : List Tp} {t : Tp} {i j : Nat} {E E' : Int} (h : Cm (lf E i (takeS ts 2 i)) t j E') : Cm (lf E i (numS' ts i)) t.n j E' := h.map (g := fun t : Tp => t.n)
/- A step, with the node that it lays. -/
abbrev stepK (r : Np × List Np) (j : Nat) : Rs (Nat × List Np) := .ok (r.2.length, r.2 ++ [r.1]) j
section
variable {ts : List Tp} {i j j1 j2 j3 j4 j5 : Nat} {E E1 E2 E3 E4 E5 : Int} {t2 t3 t5 : Tp}
theorem fetch_cm0 (h1 : Cm (lf E i (wantS ts wFetch i)) () j1 E1) (h2 : Cm (lf E1 j1 (takeS ts 1 j1)) t2 j2 E2) (hf : isE E2 ts j2 wFrom = false) : Cm (lf E i (fetchS ts i)) { n0 with kind := 1, s := t2.s, to_ := 1099511627775 } j2 E2 := by
  refine h1.lfand (h2.nm.lfand ?_)
  by_cases hE : E2 = 0
  · subst hE
    rw [isE_false hf rfl, if_neg (by decide)]; exact ok_lf
  · exact lf_bad hE
theorem fetch_cm1 (h1 : Cm (lf E i (wantS ts wFetch i)) () j1 E1) (h2 : Cm (lf E1 j1 (takeS ts 1 j1)) t2 j2 E2) (hf : isE E2 ts j2 wFrom = true) (h3 : Cm (lf E2 (j2 + 1) (takeS ts 2 (j2 + 1))) t3 j3 E3) (h4 : Cm (lf E3 j3 (wantS ts wTo j3)) () j4 E4) (h5 : Cm (lf E4 j4 (takeS ts 2 j4)) t5 j5 E5) : Cm (lf E i (fetchS ts i)) { n0 with kind := 1, s := t2.s, from_ := t3.n, to_ := t5.n } j5 E5 := by
  refine h1.lfand (h2.nm.lfand ?_)
  have hE := isE_E hf
  subst hE
  rw [isE_W hf, if_pos rfl]
  have h : Cm (lf 0 (j2 + 1) ((numS' ts (j2 + 1)).and fun a j => (wantS ts wTo j).and fun _ j => (numS' ts j).and fun b j => .ok { n0 with kind := 1, s := t2.s, from_ := a, to_ := b } j)) { n0 with kind := 1, s := t2.s, from_ := t3.n, to_ := t5.n } j5 E5 := h3.nu.lfand (h4.lfand (h5.nu.lfand ok_lf))
  exact h
theorem fetch_len {n : Np} (h : Cm (lf E i (fetchS ts i)) n j E1) (hE : E1 = 0) : E = 0 ∧ fetchS ts i = .ok n j ∧ i + 1 ≤ j := by
  rcases h with ⟨-, h⟩ | ⟨h, -⟩
  · exact absurd hE h
  · unfold lf at h
    split at h
    · rename_i hE0
      exact ⟨hE0, h, (fetch_go ts _ _ _ h).1⟩
    · cases h
/- The loop over the steps. -/
def InvQ (ts : List Tp) (st : Nat → Nat → List Np → Rs (Np × List Np)) (T : Rs (Nat × List Np)) (f : Nat) (z : Int) (j : Nat) (ns : List Np) (E : Int) : Prop :=
  (¬ E = 0 ∧ T = .bad j E) ∨ (E = 0 ∧ ∃ a : Nat, z = a ∧ T = stepsL ts st f a j ns ∧ ts.length ≤ f + j)
theorem invq_start {c : PN} {d : Option PN} {ns ns5 : List Np} {n : Np} {z : Int} (hf : Cm (lf E i (fetchS ts i)) n j E1) (h : Cm2 (lf E1 j (.ok (ns.length, ns ++ [n]) j)) z ns5 j5 E5) : InvQ ts (stepB ts c d) (lf E i (queryB ts c d i ns)) ts.length z j5 ns5 E5 := by
  by_cases hE : E1 = 0
  · obtain ⟨rfl, h2, h3⟩ := fetch_len hf hE
    subst hE
    unfold lf at h; rw [if_pos rfl] at h
    rcases h with ⟨h, -⟩ | ⟨a, rfl, h, rfl⟩
    · cases h
    · cases h
      refine .inr ⟨rfl, _, rfl, ?_, by omega⟩
      unfold lf queryB; rw [if_pos rfl, h2]; rfl
  · unfold lf at h; rw [if_neg hE] at h
    rcases h with ⟨h, h5⟩ | ⟨a, -, h, -⟩
    · cases h
      refine .inl ⟨h5, ?_⟩
      rcases hf with ⟨hf, -⟩ | ⟨-, hf⟩
      · unfold queryB; exact lf_bad_and hf
      · exact absurd hf hE
    · cases h
theorem invq_more {st : Nat → Nat → List Np → Rs (Np × List Np)} {T : Rs (Nat × List Np)} {f : Nat} {z : Int} {ns : List Np} (h : InvQ ts st T f z j ns 0) (hw : isW ts j wBar = true) : ∃ f' a : Nat, z = a ∧ ts.length ≤ f' + 1 + j ∧ T = (st a (j + 1) ns).and fun r j => stepsL ts st f' r.2.length j (r.2 ++ [r.1]) := by
  rcases h with ⟨h, -⟩ | ⟨-, a, rfl, h, hf⟩
  · exact absurd rfl h
  · have := isW_lt hw
    obtain ⟨f', rfl⟩ : ∃ f', f = f' + 1 := ⟨f - 1, by omega⟩
    exact ⟨f', a, rfl, hf, by rw [h, stepsL, if_pos hw]⟩
theorem invq_end {st : Nat → Nat → List Np → Rs (Np × List Np)} {T : Rs (Nat × List Np)} {f : Nat} {z : Int} {ns : List Np} (h : InvQ ts st T f z j ns E) (hw : isE E ts j wBar = false) : Cm2 T z ns j E := by
  rcases h with ⟨h, h2⟩ | ⟨rfl, a, rfl, h, hf⟩
  · exact .inl ⟨h2, h⟩
  · refine .inr ⟨a, rfl, ?_, rfl⟩
    rw [h]
    cases f with
    | zero => rfl
    | succ f => rw [stepsL, isE_false hw rfl, if_neg (by decide)]
theorem invq_next {c : PN} {d : Option PN} {T : Rs (Nat × List Np)} {f' a : Nat} {z4 : Int} {ns ns4 : List Np} (hc : GoN ts c) (hd : ∀ p, d = some p → GoN ts p) (hf : ts.length ≤ f' + 1 + j) (hT : T = (stepB ts c d a (j + 1) ns).and fun r j => stepsL ts (stepB ts c d) f' r.2.length j (r.2 ++ [r.1])) (h : Cm2 ((stepB ts c d a (j + 1) ns).and stepK) z4 ns4 j4 E4) : InvQ ts (stepB ts c d) T f' z4 j4 ns4 E4 ∧ (E4 = 0 → j + 1 < j4) := by
  cases hs : stepB ts c d a (j + 1) ns with
  | bad k e =>
    rw [hs] at h hT
    rcases h with ⟨h, h5⟩ | ⟨a, -, h, -⟩
    · cases h
      exact ⟨.inl ⟨h5, hT⟩, fun e => absurd e h5⟩
    · cases h
  | ok r k =>
    rw [hs] at h hT
    have hg := stepB_go hc hd _ _ _ _ _ hs
    rcases h with ⟨h, -⟩ | ⟨b, rfl, h, rfl⟩
    · cases h
    · cases h
      exact ⟨.inr ⟨rfl, _, rfl, hT, by omega⟩, fun _ => by omega⟩
end
end Go.Proofs.Ytjekpclbedbaoaa
namespace Go.Proofs.Ytjekpclbedbaoaa
open Go.RowKit Go.Joins

section
variable {B : Nat} {ts : List Tp} {w w' : World} {rb : Nat} {tv sv : Value} {E : Int} {o i : Nat} {qs : List Nd}
end
end Go.Proofs.Ytjekpclbedbaoaa
namespace Go.Proofs.Ytjekpclbedbaoaa
open Go.RowKit Go.Joins

/- A call of one argument, in a region that draws. -/
theorem step_call1 {ops : Array Oper} {o : Oper} {a : Act} {w : World} {K : Act → World → Prop} {Q : Exit → Act → World → Prop} {E : Prop} {f : FuncId} {v : Value} (hgd : o.guard = none) (x : Operand) (t : TypeId)
    (ho : o.op = .call { callee := .value (.func f), args := #[x], argTypes := #[t] }) (hx : a.eval x = v) (hen : ∀ args w, (callFunc f args).run Try.prog w = .ok (.enter f args) w)
    (hc : Calls Try.prog f #[v] w fun e w' => ∃ u, e = .returned u ∧ K (a.put o.dst u) w') : if Region.wanted o (yielded ops a.tmps) = true then Oper.wp Try.prog o a w K Q else E := by
  have hw : Region.wanted o (yielded ops a.tmps) = true := by simp [Region.wanted, hgd]
  rw [if_pos hw]
  unfold Oper.wp
  have hr : (execOp a.eval o).run Try.prog w = .ok (.enter f #[v]) w := by
    simp [execOp, ho, resolve, invoke, hen, go_sem]
    rw [← hx]
    cases x <;> simp [Act.eval]
  rw [hr, Oper.upon_enter]
  refine hc.mono ?_
  rintro e w' ⟨u, rfl, hk⟩
  exact hk
theorem enters_rcond : ∀ args w, (callFunc 30 args).run Try.prog w = .ok (.enter 30 args) w := enters_of Try.func30 (by kernel_rfl) rfl
/- A second number behind the first, which has no room. -/
theorem step_app2 {ops : Array Oper} {op : Oper} {a : Act} {w : World} {K : Act → World → Prop} {Q : Exit → Act → World → Prop} {E : Prop} {B lb zb : Nat} {r z : Int} (hgd : op.guard = none) (s x : Operand) (ho : op.op = .call { callee := .builtin .append, args := #[s, x], argTypes := #[37, 37] })
    (hs : a.eval s = .slice (some ⟨lb, 0, none⟩) 1 1) (hx : a.eval x = .slice (some ⟨zb, 0, none⟩) 1 1) (hown : Own int1 1 3 B w (.slice (some ⟨lb, 0, none⟩) 1 1) [r]) (hz : w.cell? ⟨zb, 0, none⟩ = some (.int .i64 z)) (hB : B ≤ w.heap.size)
    (h : ∀ v' w', Own int1 1 3 B w' v' [r, z] → Below w.heap.size w w' → K (a.put op.dst v') w') : if Region.wanted op (yielded ops a.tmps) = true then Oper.wp Try.prog op a w K Q else E := by
  have hw : Region.wanted op (yielded ops a.tmps) = true := by simp [Region.wanted, hgd]
  rw [if_pos hw]
  obtain ⟨ht, hkp, i0, zz, hi, hz0, hz1, hz2, hzs⟩ := elem_int
  have hnews : ∀ (j : Nat) c, [Value.int .i64 z][j]? = some c → w.cell? ((⟨zb, 0, none⟩ : Addr).add j) = some c := by
    intro j c hj
    cases j with
    | zero => cases hj; rw [Addr.add_mid]; exact hz
    | succ j => cases hj
  have h1 : ∀ u ∈ [Value.int .i64 z], u.oneCell' = true := by intro u hu; simp at hu; subst hu; rfl
  have hby : (1 + 1) * i0.bytes ≤ 140737488355328 := Nat.le_trans (Nat.mul_le_mul_left _ hz2) (by decide)
  obtain ⟨v', w', hr, h2, h3, h4⟩ := run_append_own (P := Try.prog) w B 37 op.type 3 i0 zz 1 i0.bytes ht hi hz0 hz1 rfl hzs hkp _ 1 [Value.int .i64 r] hown ⟨zb, 0, none⟩ 1 1 [Value.int .i64 z] rfl hnews h1 (by decide) hby hB
  have holds : ∀ j u, [Value.int .i64 r][j]? = some u → w.cell? ((⟨lb, 0, none⟩ : Addr).add j) = some u := World.ownsRow.cells hown (g := lb) rfl
  have hr2 := run_append_grow (P := Try.prog) w 37 op.type 3 i0 zz ht hi hz0 ⟨lb, 0, none⟩ 1 1 [Value.int .i64 r] (by rw [hz1]; rfl) holds ⟨zb, 0, none⟩ 1 1 [Value.int .i64 z] (by rw [hz1]; rfl) hnews (by decide) (by decide) (growslice_fits (by decide) hby)
  have hb : Below w.heap.size w w' := by
    rw [hr] at hr2
    cases hr2
    exact (Below.refl _ _).drew.alloc (Nat.le_refl _) _
  unfold Oper.wp execOp
  simp only [ho, resolve, invoke, builtin, Sem.run_bind, Sem.run_pure, Result.andThen_ok, List.map_toArray, List.map_cons, List.map_nil, hs, hx, hr]
  exact h v' w' h2 hb
section
variable {B : Nat} {ts : List Tp} {w w' wr : World} {rb : Nat} {tv sv0 sv sv' : Value} {E E' : Int} {o o' i j j' : Nat} {qs qs' : List Nd} {nb : Nat} {q q' : Nd}
structure Bm (B : Nat) (ts : List Tp) (w : World) (rb : Nat) (tv sv0 sv : Value) (E : Int) (o j : Nat) (qs : List Nd) (nb : Nat) (q : Nd) (wr : World) : Prop where
  h : Bn B ts w rb tv sv0 sv E o j qs nb q wr
  d : NdIn B wr q
theorem Bm.y1 (h : Bm B ts w rb tv sv0 sv E o j qs nb q wr) (hk : Kp (fun k => k = rb) wr w') (hr : Ry B ts w' rb tv sv E' o' j' qs) : Bm B ts w rb tv sv0 sv E' o' j' qs nb q w' := ⟨h.h.y1 hk hr, h.d.kp hk h.h.r.tkr⟩
theorem Bm.y2 (h : Bm B ts w rb tv sv0 sv E o j qs nb q wr) (hk : Kp (Tq rb sv) wr w') (ha : At wr sv sv') (hr : Ry B ts w' rb tv sv' E' o' j' qs') : Bm B ts w rb tv sv0 sv' E' o' j' qs' nb q w' := ⟨h.h.y2 hk ha hr, h.d.kp hk h.h.r.tk⟩
theorem Bm.on (h : Bm B ts w rb tv sv0 sv E o j qs nb q wr) (hb : Below wr.heap.size wr w') : Bm B ts w rb tv sv0 sv E o j qs nb q w' := ⟨h.h.on hb, h.d.on hb⟩
theorem Bm.set1 (h : Bm B ts w rb tv sv0 sv E o j qs nb q wr) (c : Nat) (v : Value) (hq : q.cells.toArray.setIfInBounds c v = q'.cells.toArray) (hd : NdIn B wr q → NdIn B wr q') : Bm B ts w rb tv sv0 sv E o j qs nb q' (wr.setCell ⟨nb, c, none⟩ v) :=
  ⟨h.h.set1 c v hq, (hd h.d).kp (Kp.set (T := fun k => k = nb) rfl v) h.h.tk⟩
theorem Bm.start {rows : Int} (h : Ry B ts w rb tv sv E o j qs) (hS : S6 (w.alloc (.cells #[.int .i64 rows] 3)).heap.size (nam1 w { n0 with l := [rows] }).cells.toArray w') (hk' : Kp (fun k => k = (w.alloc (.cells #[.int .i64 rows] 3)).heap.size) ((w.alloc (.cells #[.int .i64 rows] 3)).alloc (.cells zNd 44)) w') :
    Bm B ts w rb tv sv sv E o j qs (w.alloc (.cells #[.int .i64 rows] 3)).heap.size (nam1 w { n0 with l := [rows] }) w' := by
  have hr := h.on ((Below.refl _ _).alloc (Nat.le_refl _) (.cells #[.int .i64 rows] 3))
  refine ⟨Bn.start2 hr (Kp.alloc _ _ _) (At.refl _ _) h.lt hS hk', ?_⟩
  have hd : NdIn B (w.alloc (.cells #[.int .i64 rows] 3)) (nam1 w { n0 with l := [rows] }) := nam1_in (a := rows) h.B_le rfl rfl rfl
  refine (hd.on ((Below.refl _ _).alloc (Nat.le_refl _) (.cells zNd 44))).kp hk' ?_
  rintro k rfl c t fz hc
  rw [alloc_block] at hc; cases hc; decide
theorem zNd_at (w : World) (rows : Int) : ((w.alloc (.cells #[.int .i64 rows] 3)).alloc (.cells zNd 44)).heap[w.heap.size + 1]? = some (.cells zNd 44 (0, 0)) := by
  have h := alloc_block (w.alloc (.cells #[.int .i64 rows] 3)) (.cells zNd 44)
  rw [show (w.alloc (.cells #[.int .i64 rows] 3)).heap.size = w.heap.size + 1 by simp] at h
  exact h
theorem Bm.start1 {rows : Int} (h : Ry B ts w rb tv sv E o j qs) (hS : S6 (w.heap.size + 1) (nam1 w { n0 with l := [rows] }).cells.toArray w') (hk' : Kp (fun k => k = w.heap.size + 1) ((w.alloc (.cells #[.int .i64 rows] 3)).alloc (.cells zNd 44)) w') : Bm B ts w rb tv sv sv E o j qs (w.heap.size + 1) (nam1 w { n0 with l := [rows] }) w' := by
  have e : (w.alloc (.cells #[.int .i64 rows] 3)).heap.size = w.heap.size + 1 := by simp
  have := Bm.start (rows := rows) (w' := w') h (by rw [e]; exact hS) (by rw [e]; exact hk')
  rw [e] at this; exact this
theorem NdIn.same (h : NdIn B w q) (h1 : q'.lv = q.lv) (h2 : q'.nv = q.nv) (h3 : q'.gv = q.gv) (h4 : q'.np.l = q.np.l) (h5 : q'.np.names = q.np.names) (h6 : q'.np.aggs = q.np.aggs) : NdIn B w q' :=
  ⟨by rw [h1, h4]; exact h.l, by rw [h2, h5]; exact h.n, by rw [h3, h6]; exact h.g⟩
/- Mathematics. -/
variable {c : PN} {d : Option PN} {rows : Nat} {ns ns9 : List Np} {z9 E9 : Int} {j9 : Nat}
theorem step_k {k : Nat} (hk : k < 7) (hn : ∀ m, m < k → isW ts i (stepW.getD m []) = false) (hy : isW ts i (stepW.getD k []) = true) : oneOfS ts stepW i = .ok k (i + 1) := by
  unfold oneOfS
  rw [idx_first stepW 0 k hk hn hy, Nat.zero_add]
theorem cm_fin {α : Type} {r : Rs α} {g : α → Np} {x : α} (h : Cm r x j E) (h9 : Cm2 (lf E j (.ok (ns.length, ns ++ [g x]) j)) z9 ns9 j9 E9) : Cm2 (r.and fun x j => .ok (ns.length, ns ++ [g x]) j) z9 ns9 j9 E9 := by
  rcases h with ⟨h, hE⟩ | ⟨h, rfl⟩
  · unfold lf at h9; rw [if_neg hE] at h9
    rw [h]; exact h9
  · unfold lf at h9; rw [if_pos rfl] at h9
    rw [h]; exact h9
theorem cm0 {α : Type} {r : Rs α} {x : α} (h : Cm (lf 0 i r) x j E) : Cm r x j E := by unfold lf at h; rw [if_pos rfl] at h; exact h
theorem step_none (hn : ∀ m, m < 7 → isW ts i (stepW.getD m []) = false) (h9 : Cm2 (lf 120 i (.ok (ns.length, ns ++ [n0]) i)) z9 ns9 j9 E9) : Cm2 ((stepB ts c d rows i ns).and stepK) z9 ns9 j9 E9 := by
  have e : stepB ts c d rows i ns = .bad i 120 := by unfold stepB oneOfS; rw [idx_nil stepW 0 hn]; rfl
  rw [e]
  unfold lf at h9; rw [if_neg (by decide)] at h9; exact h9
end
end Go.Proofs.Ytjekpclbedbaoaa
namespace Go.Proofs.Ytjekpclbedbaoaa
open Go.RowKit Go.Joins

section
variable {B : Nat} {ts : List Tp} {w w' : World} {rb : Nat} {tv sv : Value} {E : Int} {o i : Nat} {qs : List Nd}
theorem where_fin {c : PN} {d : Option PN} {rows j3 j9 : Nat} {ns ns9 : List Np} {qs3 : List Nd} {z3 z9 E3 E9 : Int} (hn : ∀ m, m < 0 → isW ts i (stepW.getD m []) = false) (hy : isW ts i (stepW.getD 0 []) = true) (h3 : Cm2 (lf 0 (i + 1) (c (i + 1) ns)) z3 (qs3.map (·.np)) j3 E3) (h9 : Cm2 (lf E3 j3 (.ok (qs3.length, qs3.map (·.np) ++ [{ n0 with kind := 2, l := [(rows : Int), z3] }]) j3)) z9 ns9 j9 E9) : Cm2 ((stepB ts c d rows i ns).and stepK) z9 ns9 j9 E9 := by
  have e : (stepB ts c d rows i ns).and stepK = (c (i + 1) ns).and fun r j => .ok (r.2.length, r.2 ++ [{ n0 with kind := 2, l := [(rows : Int), (r.1 : Int)] }]) j := by
    unfold stepB; rw [step_k (by decide) hn hy]
    show ((c (i + 1) ns).and _).and stepK = _
    rw [and_assoc']; rfl
  rw [e]
  rcases h3 with ⟨h, hn⟩ | ⟨b, rfl, h, rfl⟩
  · unfold lf at h h9; rw [if_pos rfl] at h; rw [if_neg hn] at h9
    rw [h]; exact h9
  · unfold lf at h h9; rw [if_pos rfl] at h h9
    rw [h]; simpa [Rs.and] using h9
end
end Go.Proofs.Ytjekpclbedbaoaa
namespace Go.Proofs.Ytjekpclbedbaoaa
open Go.RowKit Go.Joins

theorem list_len {α : Type} {ts : List Tp} {one : Nat → Rs α} {i j : Nat} {E E' : Int} {l : List α} (hg : Go1 ts 1 one) (h : Cm (lf E i (listS ts one i)) l j E') (hE : E' = 0) : i + 1 ≤ j := by
  rcases h with ⟨-, h⟩ | ⟨h, -⟩
  · exact absurd hE h
  · unfold lf at h
    split at h
    · exact (list_go hg _ _ _ h).1
    · cases h
section
variable {B : Nat} {ts : List Tp} {w w' : World} {rb : Nat} {tv sv : Value} {E : Int} {o i : Nat} {qs : List Nd}
theorem keep_fin {c : PN} {d : Option PN} {rows j9 : Nat} {ns ns9 : List Np} {z9 E9 : Int} {j3 : Nat} {E3 : Int} {l : List (List UInt8)} (hn : ∀ m, m < 1 → isW ts i (stepW.getD m []) = false) (hy : isW ts i (stepW.getD 1 []) = true) (h3 : Cm (lf 0 (i + 1) (listS ts (nameS ts) (i + 1))) l j3 E3) (h9 : Cm2 (lf E3 j3 (.ok (ns.length, ns ++ [{ laidN 3 rows with names := l }]) j3)) z9 ns9 j9 E9) : Cm2 ((stepB ts c d rows i ns).and stepK) z9 ns9 j9 E9 := by
  have e : (stepB ts c d rows i ns).and stepK = (listS ts (nameS ts) (i + 1)).and fun x j => .ok (ns.length, ns ++ [(fun l => { laidN 3 rows with names := l }) x]) j := by
    unfold stepB; rw [step_k (by decide) hn hy]
    show ((listS ts (nameS ts) (i + 1)).and _).and stepK = _
    rw [and_assoc']; rfl
  rw [e]
  exact cm_fin (g := (fun l => { laidN 3 rows with names := l })) (cm0 h3) h9
theorem align_fin {c : PN} {d : Option PN} {rows j9 : Nat} {ns ns9 : List Np} {z9 E9 : Int} {j3 : Nat} {E3 : Int} {t3 : Tp} (hn : ∀ m, m < 2 → isW ts i (stepW.getD m []) = false) (hy : isW ts i (stepW.getD 2 []) = true) (h3 : Cm (lf 0 (i + 1) (takeS ts 2 (i + 1))) t3 j3 E3) (h9 : Cm2 (lf E3 j3 (.ok (ns.length, ns ++ [{ laidN 4 rows with n := t3.n }]) j3)) z9 ns9 j9 E9) : Cm2 ((stepB ts c d rows i ns).and stepK) z9 ns9 j9 E9 := by
  have e : (stepB ts c d rows i ns).and stepK = (numS' ts (i + 1)).and fun x j => .ok (ns.length, ns ++ [(fun n => { laidN 4 rows with n := n }) x]) j := by
    unfold stepB; rw [step_k (by decide) hn hy]
    show ((numS' ts (i + 1)).and _).and stepK = _
    rw [and_assoc']; rfl
  rw [e]
  exact cm_fin (g := (fun n => { laidN 4 rows with n := n })) (cm0 h3.nu) h9
end
end Go.Proofs.Ytjekpclbedbaoaa
namespace Go.Proofs.Ytjekpclbedbaoaa
open Go.RowKit Go.Joins

section
variable {B : Nat} {ts : List Tp} {w w' : World} {rb : Nat} {tv sv : Value} {E : Int} {o i : Nat} {qs : List Nd}
theorem top_fin {c : PN} {d : Option PN} {rows j3 j4 j5 j9 : Nat} {ns ns9 : List Np} {z9 E3 E4 E5 E9 : Int} {t3 t5 : Tp} (hn : ∀ m, m < 4 → isW ts i (stepW.getD m []) = false) (hy : isW ts i (stepW.getD 4 []) = true) (h3 : Cm (lf 0 (i + 1) (takeS ts 2 (i + 1))) t3 j3 E3) (h4 : Cm (lf E3 j3 (wantS ts wBy j3)) () j4 E4) (h5 : Cm (lf E4 j4 (takeS ts 1 j4)) t5 j5 E5) (h9 : Cm2 (lf E5 j5 (.ok (ns.length, ns ++ [{ laidN 6 rows with n := t3.n, s := t5.s }]) j5)) z9 ns9 j9 E9) : Cm2 ((stepB ts c d rows i ns).and stepK) z9 ns9 j9 E9 := by
  have e : (stepB ts c d rows i ns).and stepK = ((numS' ts (i + 1)).and fun n j => (wantS ts wBy j).and fun _ j => (nameS ts j).and fun x j => .ok ((n, x) : Int × List UInt8) j).and fun p j => .ok (ns.length, ns ++ [{ laidN 6 rows with n := p.1, s := p.2 }]) j := by
    unfold stepB; rw [step_k (by decide) hn hy]
    show ((numS' ts (i + 1)).and _).and stepK = _
    simp only [and_assoc']; rfl
  rw [e]
  exact cm_fin (g := fun p : Int × List UInt8 => { laidN 6 rows with n := p.1, s := p.2 }) ((cm0 h3.nu).and (h4.lfand (h5.nm.lfand ok_lf))) h9
theorem top_len {j3 j4 j5 : Nat} {E3 E4 E5 : Int} {t3 t5 : Tp} (h3 : Cm (lf 0 (i + 1) (takeS ts 2 (i + 1))) t3 j3 E3) (h4 : Cm (lf E3 j3 (wantS ts wBy j3)) () j4 E4) (h5 : Cm (lf E4 j4 (takeS ts 1 j4)) t5 j5 E5) (hE : E5 = 0) : i + 1 ≤ j5 := by
  obtain ⟨e4, e5, -⟩ := take_ok h5 hE
  rcases h4 with ⟨-, h⟩ | ⟨h, -⟩
  · exact absurd e4 h
  · unfold lf at h
    split at h
    · rename_i e3
      have g := want_go ts _ _ _ _ h
      obtain ⟨-, e6, -⟩ := take_ok h3 e3
      omega
    · cases h
end
end Go.Proofs.Ytjekpclbedbaoaa
namespace Go.Proofs.Ytjekpclbedbaoaa
open Go.RowKit Go.Joins

section
variable {B : Nat} {ts : List Tp} {w w' : World} {rb : Nat} {tv sv : Value} {E : Int} {o i : Nat} {qs : List Nd}
theorem none_fin {c : PN} {d : Option PN} {rows j9 : Nat} {ns ns9 : List Np} {z9 E9 : Int} {x : Nat × List Np} (hn : ∀ m, m < 7 → isW ts i (stepW.getD m []) = false) (h9 : Cm2 (lf 120 i (.ok x i)) z9 ns9 j9 E9) : Cm2 ((stepB ts c d rows i ns).and stepK) z9 ns9 j9 E9 := by
  have e : stepB ts c d rows i ns = .bad i 120 := by unfold stepB oneOfS; rw [idx_nil stepW 0 hn]; rfl
  rw [e]
  unfold lf at h9; rw [if_neg (by decide)] at h9; exact h9
theorem group0_fin {c : PN} {d : Option PN} {rows j4 j5 j9 : Nat} {ns ns9 : List Np} {z9 E4 E5 E9 : Int} {l : List (Int × List UInt8)} (hn : ∀ m, m < 3 → isW ts i (stepW.getD m []) = false) (hy : isW ts i (stepW.getD 3 []) = true) (hb : isW ts (i + 1) wColon = true) (h4 : Cm (lf 0 (i + 1) (wantS ts wColon (i + 1))) () j4 E4) (h5 : Cm (lf E4 j4 (listS ts (aggS ts) j4)) l j5 E5) (h9 : Cm2 (lf E5 j5 (.ok (ns.length, ns ++ [{ laidN 5 rows with aggs := l }]) j5)) z9 ns9 j9 E9) : Cm2 ((stepB ts c d rows i ns).and stepK) z9 ns9 j9 E9 := by
  have e : (stepB ts c d rows i ns).and stepK = ((wantS ts wColon (i + 1)).and fun _ j => listS ts (aggS ts) j).and fun l j => .ok (ns.length, ns ++ [{ laidN 5 rows with aggs := l }]) j := by
    unfold stepB; rw [step_k (by decide) hn hy]
    show (if isW ts (i + 1) wColon = true then _ else _ : Rs (Np × List Np)).and stepK = _
    rw [if_pos hb]
    unfold wantS; rw [if_pos hb]
    simp only [and_assoc']; rfl
  rw [e]
  exact cm_fin (g := fun l => { laidN 5 rows with aggs := l }) ((cm0 h4).and h5) h9
theorem group1_fin {c : PN} {d : Option PN} {rows j3 j4 j5 j9 : Nat} {ns ns9 : List Np} {z9 E3 E4 E5 E9 : Int} {m : List (List UInt8)} {l : List (Int × List UInt8)} (hn : ∀ m, m < 3 → isW ts i (stepW.getD m []) = false) (hy : isW ts i (stepW.getD 3 []) = true) (hb : isW ts (i + 1) wColon = false) (h3 : Cm (lf 0 (i + 1) (listS ts (nameS ts) (i + 1))) m j3 E3) (h4 : Cm (lf E3 j3 (wantS ts wColon j3)) () j4 E4) (h5 : Cm (lf E4 j4 (listS ts (aggS ts) j4)) l j5 E5) (h9 : Cm2 (lf E5 j5 (.ok (ns.length, ns ++ [{ laidN 5 rows with names := m, aggs := l }]) j5)) z9 ns9 j9 E9) : Cm2 ((stepB ts c d rows i ns).and stepK) z9 ns9 j9 E9 := by
  have e : (stepB ts c d rows i ns).and stepK = ((listS ts (nameS ts) (i + 1)).and fun m j => (wantS ts wColon j).and fun _ j => (listS ts (aggS ts) j).and fun l j => .ok ((m, l) : List (List UInt8) × List (Int × List UInt8)) j).and fun p j => .ok (ns.length, ns ++ [{ laidN 5 rows with names := p.1, aggs := p.2 }]) j := by
    unfold stepB; rw [step_k (by decide) hn hy]
    show (if isW ts (i + 1) wColon = true then _ else _ : Rs (Np × List Np)).and stepK = _
    rw [hb, if_neg (by decide)]
    simp only [and_assoc']; rfl
  rw [e]
  exact cm_fin (g := fun p : List (List UInt8) × List (Int × List UInt8) => { laidN 5 rows with names := p.1, aggs := p.2 }) ((cm0 h3).and (h4.lfand (h5.lfand ok_lf))) h9
end
end Go.Proofs.Ytjekpclbedbaoaa
namespace Go.Proofs.Ytjekpclbedbaoaa
open Go.RowKit Go.Joins

section
variable {B : Nat} {ts : List Tp} {w w' : World} {rb : Nat} {tv sv : Value} {E : Int} {o i : Nat} {qs : List Nd}
theorem br_fin {c : PN} {d : Option PN} {p : PN} {k : Nat} {kd : Int} {rows j5 j6 j7 j9 : Nat} {ns ns9 : List Np} {qs6 : List Nd} {z6 z9 E5 E6 E7 E9 : Int} (hk : (k = 5 ∧ kd = 7) ∨ (k = 6 ∧ kd = 8)) (hn : ∀ m, m < k → isW ts i (stepW.getD m []) = false) (hy : isW ts i (stepW.getD k []) = true) (hin : inBr ts d (i + 1) ns = if E5 = 0 then (p j5 ns).and fun r j => (wantS ts wShut j).and fun _ j => .ok r j else .bad j5 E5) (h6 : Cm2 (lf E5 j5 (p j5 ns)) z6 (qs6.map (·.np)) j6 E6) (h7 : Cm (lf E6 j6 (wantS ts wShut j6)) () j7 E7) (h9 : Cm2 (lf E7 j7 (.ok (qs6.length, qs6.map (·.np) ++ [{ n0 with kind := kd, l := [(rows : Int), z6] }]) j7)) z9 ns9 j9 E9) : Cm2 ((stepB ts c d rows i ns).and stepK) z9 ns9 j9 E9 := by
  have e : (stepB ts c d rows i ns).and stepK = (inBr ts d (i + 1) ns).and fun r j => .ok (r.2.length, r.2 ++ [{ n0 with kind := kd, l := [(rows : Int), (r.1 : Int)] }]) j := by
    unfold stepB
    rcases hk with ⟨rfl, rfl⟩ | ⟨rfl, rfl⟩
    · rw [step_k (by decide) hn hy]
      show ((inBr ts d (i + 1) ns).and _).and stepK = _
      rw [and_assoc']; rfl
    · rw [step_k (by decide) hn hy]
      show ((inBr ts d (i + 1) ns).and _).and stepK = _
      rw [and_assoc']; rfl
  rw [e, hin]
  by_cases h5 : E5 = 0
  · subst h5
    rw [if_pos rfl]
    unfold lf at h6; rw [if_pos rfl] at h6
    rcases h6 with ⟨h6, hE⟩ | ⟨b, rfl, h6, rfl⟩
    · rw [h6]
      unfold lf at h7; rw [if_neg hE] at h7
      rcases h7 with ⟨h7, hE7⟩ | ⟨h7, -⟩
      · cases h7
        unfold lf at h9; rw [if_neg hE] at h9
        exact h9
      · cases h7
    · rw [h6]
      unfold lf at h7; rw [if_pos rfl] at h7
      simp only [Rs.and]
      rcases h7 with ⟨h7, hE7⟩ | ⟨h7, rfl⟩
      · rw [h7]
        unfold lf at h9; rw [if_neg hE7] at h9
        exact h9
      · rw [h7]
        unfold lf at h9; rw [if_pos rfl] at h9
        simpa [Rs.and] using h9
  · rw [if_neg h5]
    unfold lf at h6; rw [if_neg h5] at h6
    rcases h6 with ⟨h6, hE⟩ | ⟨b, -, h6, -⟩
    · cases h6
      unfold lf at h7; rw [if_neg h5] at h7
      rcases h7 with ⟨h7, hE7⟩ | ⟨h7, -⟩
      · cases h7
        unfold lf at h9; rw [if_neg h5] at h9
        exact h9
      · cases h7
    · cases h6
theorem want_len {j j' : Nat} {E' : Int} {x : List UInt8} (h : Cm (lf E j (wantS ts x j)) () j' E') (hE : E' = 0) : j + 1 ≤ j' := by
  rcases h with ⟨-, h⟩ | ⟨h, -⟩
  · exact absurd hE h
  · unfold lf at h
    split at h
    · exact (want_go ts _ _ _ _ h).1
    · cases h
end
end Go.Proofs.Ytjekpclbedbaoaa
namespace Go.Proofs.Ytjekpclbedbaoaa
open Go.RowKit Go.Joins

section
variable {B : Nat} {ts : List Tp} {w w' : World} {rb : Nat} {tv sv : Value} {E : Int} {o i : Nat} {qs : List Nd}
theorem wants_open0 (h : Ry B ts w rb tv sv 0 o (i + 1) qs) (hw : isW ts (i + 1) wOpen = false) : Calls Try.prog 93 #[dp rb, .string (St wOpen)] w fun e w' => e = .returned (.tuple #[]) ∧ Kp (fun k => k = rb) w w' ∧ Ry B ts w' rb tv sv 120 o (i + 1) qs := by
  refine (rwants_any h wOpen).mono ?_
  rintro e w1 ⟨hk, x, v, E1, j1, rfl, hv, hq, hc⟩
  obtain rfl := hv
  unfold lf wantS at hc; rw [if_pos rfl, hw, if_neg (by decide)] at hc
  rcases hc with ⟨hc, -⟩ | ⟨hc, -⟩
  · cases hc; exact ⟨rfl, hk, hq⟩
  · cases hc
theorem wants_open1 (h : Ry B ts w rb tv sv 0 o (i + 1) qs) (hw : isW ts (i + 1) wOpen = true) : Calls Try.prog 93 #[dp rb, .string (St wOpen)] w fun e w' => e = .returned (.tuple #[]) ∧ Kp (fun k => k = rb) w w' ∧ Ry B ts w' rb tv sv 0 o (i + 2) qs := by
  refine (rwants_any h wOpen).mono ?_
  rintro e w1 ⟨hk, x, v, E1, j1, rfl, hv, hq, hc⟩
  obtain rfl := hv
  unfold lf wantS at hc; rw [if_pos rfl, hw, if_pos rfl] at hc
  rcases hc with ⟨hc, -⟩ | ⟨hc, rfl⟩
  · cases hc
  · cases hc; exact ⟨rfl, hk, hq⟩
theorem rdeeper_bad (hE : ¬ E = 0) (h : Ry B ts w rb tv sv E o i qs) (hl : qs.length + 1 ≤ i) (ho : o ≤ 16) : Calls Try.prog 92 #[dp rb] w fun e w' => e = .returned (.tuple #[]) ∧ Kp (fun k => k = rb) w w' ∧ Ry B ts w' rb tv sv E (o + 1) i qs := by
  refine (rdeeper_any h hl ho).mono ?_
  rintro e w2 ⟨rfl, hk, ⟨he, hq⟩ | ⟨he, ho2, hq⟩ | ⟨he, ho2, hq⟩⟩
  · exact ⟨rfl, hk, hq⟩
  · exact absurd he hE
  · exact absurd he hE
end
end Go.Proofs.Ytjekpclbedbaoaa
namespace Go.Proofs.Ytjekpclbedbaoaa
open Go.RowKit Go.Joins

def endS (ts : List Tp) (E : Int) (j : Nat) (ns : List Np) : List Np × Nat × Int :=
  if E = 0 then (if j < ts.length then ([], j, 120) else if 128 < ns.length then ([], 0, 2) else (ns, 0, 0)) else ([], j, E)
section
variable {B : Nat} {ts : List Tp} {w w' : World} {rb : Nat} {tv sv : Value} {E : Int} {o i : Nat} {qs : List Nd}
def RenP (B : Nat) (rb : Nat) (w : World) (r : List Np × Nat × Int) (e : Ending) (w' : World) : Prop :=
  ∃ v, e = .returned (.tuple #[.agg #[v], .int .i64 (r.2.1 : Int), .int .i64 r.2.2]) ∧ Nq B w' v r.1 ∧ Kp (fun k => k = rb) w w'
theorem Ry.nq (h : Ry B ts w rb tv sv E o i qs) : Nq B w sv (qs.map (·.np)) := ⟨qs, h.own, h.each, rfl⟩
set_option maxRecDepth 100000 in
set_option maxHeartbeats 2000000 in
theorem rend_any (h : Ry B ts w rb tv sv E o i qs) : Calls Try.prog 31 #[dp rb] w (RenP B rb w (endS ts E i (qs.map (·.np)))) := by
  have HB0 : Hid (Below w.heap.size w (w.alloc (.cells #[.slice none 0 0] 34))) := (Below.refl _ _).alloc (Nat.le_refl _) _
  have HZ := hid (alloc_block w (.cells #[.slice none 0 0] 34))
  have HR0 := hid h
  have HR1 := hid (h.on HB0.out)
  have htl := h.tl
  have hil := h.il
  have hql := h.ql
  have hne : ¬ rb = w.heap.size := by have := h.lt; omega
  obtain ⟨p, cap, rfl, hc1, hc2⟩ := h.tok.form
  obtain ⟨ps, cs, rfl⟩ := h.own.form
  unfold maxLen at hc2
  have iI0 : (0 : Int) ≤ i := by omega
  have k1 := HR1.out.cell
  have z1 := HR1.out.frozen
  have kz := block_cell HZ.out
  have fz := block_frozen HZ.out
  generalize hW : w.alloc (.cells #[.slice none 0 0] 34) = w1 at *
  have HW := hid hW
  clear h hW
  by_cases hE : E = 0
  · subst hE
    by_cases hi : i < ts.length
    · have dI : decide ((i : Int) < ts.length) = true := by simp; omega
      have iI : (i : Int) < ts.length := by omega
      have HE : Hid (endS ts 0 i (qs.map (·.np)) = ([], i, 120)) := by show _ = _; unfold endS; rw [if_pos rfl, if_pos hi]
      clear hi
      go_enter Try.func31, Try.ntmps31
      go_upto_region 1 with fail
      rw [HW.out]
      go_quiet (fail)
      have HR2 := hid (HR1.out.on (below_drewN (Below.refl _ _) nq))
      have HZ2 := hid (block_on HZ.out (below_drewN (Below.refl w1.heap.size w1) nq))
      have HK2 := hid ((Kp.of (T := fun k => k = rb) HB0.out).trans (Kp.of (below_drewN (Below.refl w1.heap.size w1) nq)))
      generalize w1.drewN nq = W2 at *
      clear k1 z1 kz fz
      have k1 := HR2.out.cell
      go_upto_region 4 with (go_at_call 57; clear k1; refine (rfail_any HR2.out).mono ?_; rintro e w3 ⟨rfl, hq, hk⟩; have HR3 := hid hq; have HZ3 := hid (hk.blk HZ2.out (fun e => hne e.symm)); have HK3 := hid (HK2.out.trans hk); have k1 : ∀ j, w3.cell? ⟨rb, j, none⟩ = #[.slice p ts.length cap, .int .i64 (i : Int), .slice ps qs.length cs, .int .i64 120, .int .i64 (o : Int)][j]? := hq.cell; have kz := block_cell HZ3.out; have fz := block_frozen HZ3.out; clear hq hk)
      go_region_with (fail)
      all_goals
        (go_wp2
         refine bodyPost_ret (v := .tuple #[.agg #[.slice none 0 0], .int .i64 (i : Int), .int .i64 120]) (by simp [results, Try.results31, go_sem, block_cell (block_on (q_set HZ3.out (.slice none 0 0)) (Below.refl _ _).drew) 0]) rfl ?_
         show RenP _ _ _ _ _ _
         rw [HE.out]
         exact ⟨_, rfl, Nq.nil _ _, (HK3.out.trans' (Kp.set (T := fun k => k = w.heap.size) rfl _) (fun k hk e => by omega)).trans (Kp.drew _ _)⟩)
    · have dI : decide ((i : Int) < ts.length) = false := by simp; omega
      have iI : ¬ (i : Int) < ts.length := by omega
      by_cases h128 : 128 < qs.length
      · have HE : Hid (endS ts 0 i (qs.map (·.np)) = ([], 0, 2)) := by show _ = _; unfold endS; rw [if_pos rfl, if_neg hi, if_pos (by simpa using h128)]
        have qI : 128 < (qs.length : Int) := by omega
        clear hi h128
        go_enter Try.func31, Try.ntmps31
        go_upto_region 1 with fail
        rw [HW.out]
        go_quiet (fail)
        have HR2 := hid (HR1.out.on (below_drewN (Below.refl _ _) nq))
        have HZ2 := hid (block_on HZ.out (below_drewN (Below.refl w1.heap.size w1) nq))
        have HK2 := hid ((Kp.of (T := fun k => k = rb) HB0.out).trans (Kp.of (below_drewN (Below.refl w1.heap.size w1) nq)))
        generalize w1.drewN nq = W2 at *
        clear k1 z1 kz fz
        have k1 := HR2.out.cell
        have kz := block_cell HZ2.out
        have fz := block_frozen HZ2.out
        go_wp2_with fail
        refine bodyPost_ret (v := .tuple #[.agg #[.slice none 0 0], .int .i64 0, .int .i64 2]) (by simp [results, Try.results31, go_sem, block_cell (q_set HZ2.out (.slice none 0 0)) 0]) rfl ?_
        show RenP _ _ _ _ _ _
        rw [HE.out]
        exact ⟨_, rfl, Nq.nil _ _, HK2.out.trans' (Kp.set (T := fun k => k = w.heap.size) rfl _) (fun k hk e => by omega)⟩
      · have HE : Hid (endS ts 0 i (qs.map (·.np)) = (qs.map (·.np), 0, 0)) := by show _ = _; unfold endS; rw [if_pos rfl, if_neg hi, if_neg (by simpa using h128)]
        have qI : ¬ 128 < (qs.length : Int) := by omega
        have HBl : Hid (B ≤ w.heap.size) := HR0.out.B_le
        clear hi h128
        go_enter Try.func31, Try.ntmps31
        go_upto_region 1 with fail
        rw [HW.out]
        go_quiet (fail)
        have HR2 := hid (HR1.out.on (below_drewN (Below.refl _ _) nq))
        have HZ2 := hid (block_on HZ.out (below_drewN (Below.refl w1.heap.size w1) nq))
        have HK2 := hid ((Kp.of (T := fun k => k = rb) HB0.out).trans (Kp.of (below_drewN (Below.refl w1.heap.size w1) nq)))
        generalize w1.drewN nq = W2 at *
        clear k1 z1 kz fz
        have k1 := HR2.out.cell
        have kz := block_cell HZ2.out
        have fz := block_frozen HZ2.out
        go_wp2_with fail
        refine bodyPost_ret (v := .tuple #[.agg #[.slice ps qs.length cs], .int .i64 0, .int .i64 0]) (by simp [results, Try.results31, go_sem, block_cell (q_set HZ2.out (.slice ps qs.length cs)) 0]) rfl ?_
        show RenP _ _ _ _ _ _
        rw [HE.out]
        have hk := HK2.out.trans' (Kp.set (T := fun k => k = w.heap.size) (i := 0) (w := W2) rfl (.slice ps qs.length cs)) (fun k hk e => by omega)
        have hq := HR2.out.kp (Kp.set (T := fun k => k = w.heap.size) (i := 0) (w := W2) rfl (.slice ps qs.length cs)) (fun k ht e => by have := HR0.out.T_lt k ht; omega) (by rintro k rfl c t fz hc; rw [HZ2.out] at hc; cases hc; decide) (fun k e => by have := HBl.out; omega)
        exact ⟨_, rfl, hq.nq, hk⟩
  · have bE : (E == 0) = false := by simp [hE]
    have bE2 : (E != 0) = true := by simp [hE]
    have HE : Hid (endS ts E i (qs.map (·.np)) = ([], i, E)) := by show _ = _; unfold endS; rw [if_neg hE]
    clear hE
    go_enter Try.func31, Try.ntmps31
    go_upto_region 1 with fail
    rw [HW.out]
    go_quiet (fail)
    have HR2 := hid (HR1.out.on (below_drewN (Below.refl _ _) nq))
    have HZ2 := hid (block_on HZ.out (below_drewN (Below.refl w1.heap.size w1) nq))
    have HK2 := hid ((Kp.of (T := fun k => k = rb) HB0.out).trans (Kp.of (below_drewN (Below.refl w1.heap.size w1) nq)))
    generalize w1.drewN nq = W2 at *
    clear k1 z1 kz fz
    have k1 := HR2.out.cell
    have kz := block_cell HZ2.out
    have fz := block_frozen HZ2.out
    go_upto_region 4 with fail
    go_region_with (fail)
    all_goals
      (go_wp2
       refine bodyPost_ret (v := .tuple #[.agg #[.slice none 0 0], .int .i64 (i : Int), .int .i64 E]) (by simp [results, Try.results31, go_sem, block_cell (block_on (q_set HZ2.out (.slice none 0 0)) (Below.refl _ _).drew) 0]) rfl ?_
       show RenP _ _ _ _ _ _
       rw [HE.out]
       exact ⟨_, rfl, Nq.nil _ _, (HK2.out.trans' (Kp.set (T := fun k => k = w.heap.size) rfl _) (fun k hk e => by omega)).trans (Kp.drew _ _)⟩)
end
end Go.Proofs.Ytjekpclbedbaoaa
