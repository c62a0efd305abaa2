/-
  What copy does, of elements of some cells each, and what two copies leave.
  What Go's slices.Insert returns, of one sample into a row of samples: at its end.
-/
import Derived.Test.YtlbjbkhcnafhcaaGreatP12XOf
import Derived.Test.YtlbjbkhcnafhcaaGreatQRnAppP
import Derived.Laws.CopyOwn
namespace Go.Proofs.YtlbjbkhcnafhcaaGreat.RN
open Go.RowKit Go.Sort

theorem run_copyK {P : Program} (w : World) (dT sT ty elem : TypeId) (g o dLen dCap : Nat) (a : Addr) (sLen sCap : Nat) (cur : List Value) (t : TypeId) (cs : List Value) (k : Nat)
    (hu : P.underlying dT = some (.slice elem)) (hs : (P.info? elem).map (·.size) = some k) (hg : w.heap[g]? = some (.cells cur.toArray t (0, 0))) (hn : cs.length = Nat.min sLen dLen * k)
    (hsrc : ∀ j v, cs[j]? = some v → w.cell? (a.add j) = some v) (hfit : o + cs.length ≤ cur.length) (h1 : ∀ v ∈ cs, v.oneCell' = true) :
    (Builtin.copy_ #[dT, sT] ty #[.slice (some ⟨g, o, none⟩) dLen dCap, .slice (some a) sLen sCap]).run P w = .ok (goInt (Nat.min sLen dLen)) (w.setRow g (splice cur o cs).toArray) := by
  have hl := run_loadCells_list (P := P) w a cs hsrc
  have hst := run_storeCells_at P g o t cs 0 cur.toArray w hg (by simpa using hfit) h1
  cases hq : P.info? elem with
  | none => simp [hq] at hs
  | some i =>
    have hi : i.size = k := by simpa [hq] using hs
    simp [Builtin.copy_, run_underlying hu, Builtin.lenOf, Builtin.firstCells, sizeOf, typeInfo, hq, hi, ← hn, hl, hst, splice]
theorem step_copyK {ops : Array Oper} {o : Oper} {a : Act} {w : World} {K : Act → World → Prop} {Q : Exit → Act → World → Prop} {E : Prop} (hgd : o.guard = none) (d s : Operand) (dT sT : TypeId)
    (ho : o.op = .call { callee := .builtin .copy, args := #[d, s], argTypes := #[dT, sT] }) (elem : TypeId) (k : Nat) (hu : Tryz.prog.underlying dT = some (.slice elem)) (hsz : (Tryz.prog.info? elem).map (·.size) = some k)
    (g off dLen dCap : Nat) (ad : Addr) (sLen sCap : Nat) (hd : a.eval d = .slice (some ⟨g, off, none⟩) dLen dCap) (hs : a.eval s = .slice (some ad) sLen sCap)
    (cur : List Value) (t : TypeId) (hg : w.heap[g]? = some (.cells cur.toArray t (0, 0))) (cs : List Value) (hn : cs.length = Nat.min sLen dLen * k)
    (hsrc : ∀ j v, cs[j]? = some v → w.cell? (ad.add j) = some v) (hfit : off + cs.length ≤ cur.length) (h1 : ∀ v ∈ cs, v.oneCell' = true)
    (h : ∀ w', Hid (w'.heap[g]? = some (.cells (splice cur off cs).toArray t (0, 0))) → Hid (Kp (fun x => x = g) w w') → K (a.put o.dst (goInt (Nat.min sLen dLen))) w') :
    if Region.wanted o (yielded ops a.tmps) = true then Oper.wp Tryz.prog o a w K Q else E := by
  have hw : Region.wanted o (yielded ops a.tmps) = true := by simp [Region.wanted, hgd]
  rw [if_pos hw]
  have hrun := run_copyK (P := Tryz.prog) w dT sT o.type elem g off dLen dCap ad sLen sCap cur t cs k hu hsz hg hn hsrc hfit h1
  unfold Oper.wp
  simp [execOp, ho, resolve, invoke, builtin, hd, hs, hrun, Result.andThen]
  exact h _ (show _ = _ by simpa using setRow_heap w g _ _ t _ hg) (show Kp _ _ _ from ⟨rfl, rfl, rfl, by simp [World.setRow], fun i _ hn => setRow_other w g i _ hn⟩)
theorem wpList_copyK {ops : Array Oper} {rest : List Oper} {o : Oper} {a : Act} {w : World} {Q : Exit → Act → World → Prop} (hgd : o.guard = none) (d s : Operand) (dT sT : TypeId)
    (ho : o.op = .call { callee := .builtin .copy, args := #[d, s], argTypes := #[dT, sT] }) (elem : TypeId) (k : Nat) (hu : Tryz.prog.underlying dT = some (.slice elem)) (hsz : (Tryz.prog.info? elem).map (·.size) = some k)
    (g off dLen dCap : Nat) (ad : Addr) (sLen sCap : Nat) (hd : a.eval d = .slice (some ⟨g, off, none⟩) dLen dCap) (hs : a.eval s = .slice (some ad) sLen sCap)
    (cur : List Value) (t : TypeId) (hg : w.heap[g]? = some (.cells cur.toArray t (0, 0))) (cs : List Value) (hn : cs.length = Nat.min sLen dLen * k)
    (hsrc : ∀ j v, cs[j]? = some v → w.cell? (ad.add j) = some v) (hfit : off + cs.length ≤ cur.length) (h1 : ∀ v ∈ cs, v.oneCell' = true)
    (h : ∀ w', Hid (w'.heap[g]? = some (.cells (splice cur off cs).toArray t (0, 0))) → Hid (Kp (fun x => x = g) w w') → wpList Tryz.prog ops Q rest (a.put o.dst (goInt (Nat.min sLen dLen))) w') :
    wpList Tryz.prog ops Q (o :: rest) a w := by
  refine wpList_plain hgd fun K hK => ?_
  have := step_copyK (ops := ops) (K := K) (Q := Q) (E := True) hgd d s dT sT ho elem k hu hsz g off dLen dCap ad sLen sCap hd hs cur t hg cs hn hsrc hfit h1 (fun w' h2 h3 => hK _ _ (h w' h2 h3))
  have hw : Region.wanted o (yielded ops a.tmps) = true := by simp [Region.wanted, hgd]
  rw [if_pos hw] at this
  exact this
theorem shift_row {cur X1 X2 Y : List Value} {i m : Nat} (h1 : X1.length = i) (hY : Y.length = m) (h : cur.take (i + X2.length) = X1 ++ X2) (hl : i + m + X2.length ≤ cur.length) :
    (splice (splice cur (i + m) X2) i Y).take (i + m + X2.length) = X1 ++ (Y ++ X2) ∧ (splice (splice cur (i + m) X2) i Y).length = cur.length := by
  have hc : cur.take i = X1 := by
    have := congrArg (List.take i) h
    rw [List.take_take, Nat.min_eq_left (by omega)] at this
    rw [this, ← h1]; simp
  have hl1 := length_splice cur (i + m) X2 (by omega)
  have e1 : (splice cur (i + m) X2).take i = X1 := by
    unfold splice
    rw [List.take_append_of_le_length (by simp; omega), List.take_take, Nat.min_eq_left (by omega), hc]
  have e2 : (splice cur (i + m) X2).drop (i + m) = X2 ++ cur.drop (i + m + X2.length) := by
    unfold splice
    rw [List.drop_append_of_le_length (by simp; omega)]
    rw [List.drop_of_length_le (by simp; omega), List.nil_append]
  refine ⟨?_, by rw [length_splice _ _ _ (by rw [hl1]; omega), hl1]⟩
  show (List.take i (splice cur (i + m) X2) ++ (Y ++ List.drop (i + Y.length) (splice cur (i + m) X2))).take _ = _
  rw [e1, hY, e2, ← List.append_assoc, ← List.append_assoc, List.take_append_of_le_length (by simp; omega), List.take_of_length_le (by simp; omega), List.append_assoc]
theorem fill_row {cur X1 X2 Y : List Value} {i m : Nat} (h1 : X1.length = i) (hY : Y.length = m) (hc : cur.take i = X1) (hl : i + m + X2.length ≤ cur.length) :
    (splice (splice cur i Y) (i + m) X2).take (i + m + X2.length) = X1 ++ (Y ++ X2) ∧ (splice (splice cur i Y) (i + m) X2).length = cur.length := by
  have hl1 := length_splice cur i Y (by omega)
  have e1 : (splice cur i Y).take (i + m) = X1 ++ Y := by
    unfold splice
    rw [hc, ← List.append_assoc, List.take_append_of_le_length (by simp; omega), List.take_of_length_le (by simp; omega)]
  refine ⟨?_, by rw [length_splice _ _ _ (by rw [hl1]; omega), hl1]⟩
  show (List.take (i + m) (splice cur i Y) ++ (X2 ++ List.drop (i + m + X2.length) (splice cur i Y))).take _ = _
  rw [e1, ← List.append_assoc, List.take_append_of_le_length (by simp; omega), List.take_of_length_le (by simp; omega), List.append_assoc]
end Go.Proofs.YtlbjbkhcnafhcaaGreat.RN
namespace Go.Proofs.YtlbjbkhcnafhcaaGreat.RN
open Go.RowKit Go.Sort

/- A slice of one sample. -/
theorem sh_sl {w : World} {vb : Nat} {s : Sh} {t : TypeId} (hv : w.heap[vb]? = some (.cells #[.int .i64 s.t, s.kv] t)) : SlAt any Sh.cells 2 w (.slice (some ⟨vb, 0, none⟩) 1 1) [s] := by
  refine ⟨_, 1, rfl, ⟨Nat.le_refl _, fun e => by cases e⟩, by simp [maxLen], fun _ => ⟨_, 0, rfl, ⟨trivial, by simp [bsz]⟩, fun j x hj i u hu => ?_⟩⟩
  have hj0 : j = 0 := by have := (List.getElem?_eq_some_iff.1 hj).1; simp at this; omega
  subst hj0
  simp at hj
  subst hj
  have hi : i < 2 := by have := (List.getElem?_eq_some_iff.1 hu).1; simpa [Sh.cells] using this
  rw [block_cell hv]
  rcases i with _ | _ | i
  · simpa [Sh.cells] using hu
  · simpa [Sh.cells] using hu
  · omega
/- What Insert leaves. -/
def InsP (B : Nat) (pv : Value) (hs : List Sh) (w : World) (e : Ending) (w' : World) : Prop := ∃ pv', e = .returned pv' ∧ Own Sh.cells 2 105 B w' pv' hs ∧ Kp (fun k => pv.ownBlock = some k) w w' ∧ At w pv pv'
theorem own_form1 {B n : Nat} {w : World} {v : Value} {xs : List Sh} (h : Own Sh.cells 2 105 B w v xs) (hn : xs.length = n) : ∃ p c, v = .slice p n c ∧ n ≤ c ∧ c ≤ maxLen ∧ (p = none → n = 0 ∧ c = 0) ∧ (∀ a, p = some a → ∃ g, a = ⟨g, 0, none⟩) := by
  subst hn
  rcases h.2 with ⟨hv, h0⟩ | ⟨g, cap, cur, hv, hg, hblk, hc, hm, q⟩
  · exact ⟨none, 0, by rw [hv, h0], by omega, Nat.zero_le _, (fun _ => ⟨h0, rfl⟩), (fun a e => by cases e)⟩
  · exact ⟨_, cap, hv, hc, hm, (fun e => by cases e), (fun a e => ⟨g, by cases e; rfl⟩)⟩
set_option maxRecDepth 100000 in
set_option maxHeartbeats 2000000 in
theorem ins_end {B vb n : Nat} {w : World} {pv : Value} {hs : List Sh} {s : Sh} (ho : Own Sh.cells 2 105 B w pv hs) (hl : n ≤ 1000) (hn : hs.length = n) (hB : B ≤ w.heap.size) (hv : w.heap[vb]? = some (.cells #[.int .i64 s.t, s.kv] 105)) (h1 : s.kv.oneCell' = true) :
    Calls Tryz.prog 56 #[pv, .int .i64 n, .slice (some ⟨vb, 0, none⟩) 1 1] w (InsP B pv (hs ++ [s]) w) := by
  have HO := hid ho
  obtain ⟨p, c, rfl, hc, hm, hp0, hp1⟩ := own_form1 ho hn
  unfold maxLen at hm
  have HV := hid hv
  have H1 := hid h1
  have HN := hid hn
  clear ho hv h1 hn
  cases p with
  | none =>
    obtain ⟨rfl, rfl⟩ := hp0 rfl
    clear hp0 hp1
    go_enter Tryz.func56, Tryz.ntmps56
    go_wp2_with (at_builtin; refine app_P elem32 sh_len (fun x hx => by simp at hx; subst hx; exact sh_cells H1.out) rfl _ _ rfl rfl HO.out rfl (sh_sl HV.out) (by have := HN.out; simp only [List.length_cons, List.length_nil]; omega) (by decide) hB ?_; intro v' w1 hown hg hat)
    go_ret
    exact ⟨_, rfl, hown, Kp.grown hg (fun k e => e), hat⟩
  | some ad =>
    obtain ⟨g, rfl⟩ := hp1 ad rfl
    clear hp0 hp1
    by_cases hcn : c = n
    · subst hcn
      go_enter Tryz.func56, Tryz.ntmps56
      go_wp2_with (at_builtin; refine app_P elem32 sh_len (fun x hx => by simp at hx; subst hx; exact sh_cells H1.out) rfl _ _ rfl rfl HO.out rfl (sh_sl HV.out) (by have := HN.out; simp only [List.length_cons, List.length_nil]; omega) (by decide) hB ?_; intro v' w1 hown hg hat)
      go_ret
      exact ⟨_, rfl, hown, Kp.grown hg (fun k e => e), hat⟩
    · go_enter Tryz.func56, Tryz.ntmps56
      go_wp2_with (at_builtin; refine app_P elem32 sh_len (fun x hx => by simp at hx; subst hx; exact sh_cells H1.out) rfl _ _ rfl rfl HO.out rfl (sh_sl HV.out) (by have := HN.out; simp only [List.length_cons, List.length_nil]; omega) (by decide) hB ?_; intro v' w1 hown hg hat)
      go_ret
      exact ⟨_, rfl, hown, Kp.grown hg (fun k e => e), hat⟩
end Go.Proofs.YtlbjbkhcnafhcaaGreat.RN
