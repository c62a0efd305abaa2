/-
  What Lex returns.
  What Parse and Query return.
  Print's small functions: how many nodes one of a kind names, how tight a condition holds, the words of a comparison and of an aggregate.
  What Cond returns.
  What the reference's sign returns.
  What the reference's number returns of digits.
-/
import Derived.Test.YtmpjmimhoikknaaGreatDoorK10
import Derived.Test.YtmpjmimhoikknaaGreatDoorK11
namespace Go.Proofs.YtmpjmimhoikknaaGreatDoor
open Go.RowKit Go.Joins

def tkC (t : Tk) : List Value := [.int .i64 t.kind, .string (St t.s), .int .i64 t.n, .int .i64 t.at_]
def tksC (ts : List Tk) : List Value := ts.flatMap tkC
theorem tksC_snoc (ts : List Tk) (t : Tk) : tksC ts ++ tkC t = tksC (ts ++ [t]) := by simp [tksC]
theorem tksC_len (ts : List Tk) : (tksC ts).length = ts.length * 4 := by
  induction ts with
  | nil => rfl
  | cons t r ih => simp only [tksC, List.flatMap_cons, List.length_append, List.length_cons] at ih ⊢; rw [ih]; simp [tkC]; omega
/-- A row of tokens of one's own, of blocks from B on. -/
def Tr (B : Nat) (w : World) (v : Value) (ts : List Tk) : Prop := w.ownsRow B 85 4 v ts.length (tksC ts)
theorem row_on {w w' : World} {B e k n : Nat} {v : Value} {xs : List Value} (h : w.ownsRow B e k v n xs) (hb : Below w.heap.size w w') : w'.ownsRow B e k v n xs := by
  obtain ⟨h1, h2⟩ := h
  refine ⟨h1, ?_⟩
  rcases h2 with h2 | ⟨g, cap, cur, rfl, hg, hc, hr⟩
  · exact .inl h2
  · exact .inr ⟨g, cap, cur, rfl, hg, block_on hc hb, hr⟩
theorem Tr.on {w w' : World} {B : Nat} {v : Value} {ts : List Tk} (h : Tr B w v ts) (hb : Below w.heap.size w w') : Tr B w' v ts := row_on h hb
theorem Tr.nil (B : Nat) (w : World) : Tr B w (.slice none 0 0) [] := World.ownsRow_nil _ _ _ _
theorem Tryz.info85 : (Tryz.prog.info? 85).map (fun i => (i.zero, i.size, i.bytes)) = some (some (.agg #[.int .i64 0, .string ⟨#[]⟩, .int .i64 0, .int .i64 0]), 4, 40) := by kernel_rfl
theorem appT {ops : Array Oper} {rest : List Oper} {o : Oper} {a : Act} {Q : Exit → Act → World → Prop} {w : World} {B : Nat} {v : Value} {g : Nat} {ts : List Tk} {t : Tk}
    (hgd : o.guard = none) (s x : Operand) (ho : o.op = .call { callee := .builtin .append, args := #[s, x], argTypes := #[45, 45] })
    (hs : a.eval s = v) (hown : Tr B w v ts) (hx : a.eval x = .slice (some ⟨g, 0, none⟩) 1 1) (hc : Bx w g (.int .i64 t.kind) (.string (St t.s)) (.int .i64 t.n) (.int .i64 t.at_)) (hn : ts.length ≤ 1000000) (hB : B ≤ w.heap.size)
    (h : ∀ v' w', Tr B w' v' (ts ++ [t]) → Below B w w' → wpList Tryz.prog ops Q rest (a.put o.dst v') w') : wpList Tryz.prog ops Q (o :: rest) a w := by
  obtain ⟨i0, hi, hz0, hz1, hz2⟩ := info_parts Tryz.info85
  obtain ⟨c0, c1, c2, c3⟩ := hc.cells
  refine wpList_append_own w hgd s x 45 ho B 85 i0 _ 4 40 Tryz.underlying45 hi hz0 hz1 hz2 rfl (by decide) v ts.length _ hs hown ⟨g, 0, none⟩ 1 1 (tkC t) hx rfl ?_ ?_ ?_ ?_ hB ?_
  · intro j u hj
    match j, hj with
    | 0, hj => simp [tkC] at hj; subst hj; simpa [Addr.add] using c0
    | 1, hj => simp [tkC] at hj; subst hj; simpa [Addr.add] using c1
    | 2, hj => simp [tkC] at hj; subst hj; simpa [Addr.add] using c2
    | 3, hj => simp [tkC] at hj; subst hj; simpa [Addr.add] using c3
    | n + 4, hj => simp [tkC] at hj
  · intro u hu; simp [tkC] at hu; rcases hu with rfl | rfl | rfl | rfl <;> rfl
  · unfold maxLen; omega
  · omega
  · intro v' w' h1 h2 _
    refine h v' w' ?_ ((Below.refl B w).grown h2 hB (fun k e => (hown.lt k e).1))
    unfold Tr
    rw [← tksC_snoc, List.length_append]
    exact h1
theorem Tr.alloc {w : World} {B : Nat} {v : Value} {ts : List Tk} (h : Tr B w v ts) (o : Obj) : Tr B (w.alloc o) v ts := World.ownsRow.alloc h o
theorem two_boxes (w : World) (o : Obj) (c0 c1 c2 c3 : Value) : Bx ((w.alloc o).alloc (.cells #[c0, c1, c2, c3] 85)) (w.heap.size + 1) c0 c1 c2 c3 := by
  have h := Bx.made (w.alloc o) c0 c1 c2 c3
  rw [World.size_alloc] at h
  exact h
theorem below_two {w0 w w' : World} {o1 o2 : Obj} (h : Below w0.heap.size w0 w) (h2 : Below w0.heap.size ((w.alloc o1).alloc o2) w') : Below w0.heap.size w0 w' :=
  ((h.alloc h.size o1).alloc (by have := h.size; simp; omega) o2).trans h2
/-- What Lex answers: the tokens, the place, the error. -/
def lexO (l : List UInt8) : List Tk × Nat × Int :=
  if 2048 < l.length then ([], 0, 2) else match lexA 0 l with
    | .inl a => ([], a, 110)
    | .inr ts => (ts, 0, 0)
def joinT (ts : List Tk) : Nat ⊕ List Tk → Nat ⊕ List Tk
  | .inl e => .inl e
  | .inr m => .inr (ts ++ m)
theorem lexO_long {l : List UInt8} (h : 2048 < l.length) : lexO l = ([], 0, 2) := by unfold lexO; rw [if_pos h]
theorem lexO_bad {l : List UInt8} {a : Nat} (h : ¬ 2048 < l.length) (h2 : lexA 0 l = .inl a) : lexO l = ([], a, 110) := by unfold lexO; rw [if_neg h, h2]
theorem lexO_ok {l : List UInt8} {ts : List Tk} (h : ¬ 2048 < l.length) (h2 : lexA 0 l = .inr ts) : lexO l = (ts, 0, 0) := by unfold lexO; rw [if_neg h, h2]
theorem join_end {l : List UInt8} {ts : List Tk} {k : Nat} (h : lexA 0 l = joinT ts (lexA k (l.drop k))) (hk : ¬ k < l.length) : lexA 0 l = .inr ts := by
  rw [h, List.drop_of_length_le (by omega), lexA_nil]; simp [joinT]
theorem join_bad {l : List UInt8} {ts : List Tk} {k : Nat} (h : lexA 0 l = joinT ts (lexA k (l.drop k))) (hk : k < l.length) (hb : isBl l[k] = false) (hf : firstS (l.drop k) = none) : lexA 0 l = .inl k := by
  rw [drop_at hk] at hf h
  rw [h, lexA_no k hb hf]; rfl
theorem join_tok {l : List UInt8} {ts : List Tk} {k n : Nat} {t : Tk} (h : lexA 0 l = joinT ts (lexA k (l.drop k))) (hk : k < l.length) (hb : isBl l[k] = false) (hf : firstS (l.drop k) = some (t, n)) :
    lexA 0 l = joinT (ts ++ [{ t with at_ := k }]) (lexA (k + n) (l.drop (k + n))) := by
  rw [drop_at hk] at hf h
  rw [h, lexA_some k hb hf, ← drop_at hk, List.drop_drop]
  cases lexA (k + n) (l.drop (k + n)) <;> simp [joinT]
theorem join_sp {l : List UInt8} {ts : List Tk} {k : Nat} (h : lexA 0 l = joinT ts (lexA k (l.drop k))) : lexA 0 l = joinT ts (lexA (k + spanN isBl (l.drop k)) (l.drop (k + spanN isBl (l.drop k)))) := by
  rw [h, lexA_span k (l.drop k), List.drop_drop]
def Nb (l : List UInt8) (k : Nat) : Prop := ∀ h : k < l.length, isBl l[k] = false
theorem stop_sp (l : List UInt8) (k : Nat) : Nb l (k + spanN isBl (l.drop k)) := by
  intro h
  have := spanN_stop isBl (l.drop k) (by simp; omega)
  rw [List.getElem_drop] at this
  exact this
/-- The loop's state: how far, which tokens. -/
def Lq (w wr : World) (l : List UInt8) (v : Value) (k : Nat) (ts : List Tk) : Prop :=
  lexA 0 l = joinT ts (lexA k (l.drop k)) ∧ Nb l k ∧ ts.length ≤ k ∧ Tr w.heap.size wr v ts ∧ Below w.heap.size w wr
def LexP (l : List UInt8) (w : World) (e : Ending) (w' : World) : Prop :=
  ∃ v, e = .returned (.tuple #[v, .int .i64 ((lexO l).2.1 : Nat), .int .i64 (lexO l).2.2]) ∧ Tr w.heap.size w' v (lexO l).1 ∧ Below w.heap.size w w'
set_option maxRecDepth 100000 in
set_option maxHeartbeats 1000000 in
theorem lex_any (l : List UInt8) (hl : (l.length : Int) ≤ 140737488355328) (w : World) (hG : Gd w) : Calls Tryz.prog 69 #[.string (St l)] w (LexP l w) := by
  have hsz := St_size l
  by_cases h2048 : 2048 < l.length
  · have hI : 2048 < (l.length : Int) := by omega
    have HO := hid (lexO_long h2048)
    clear h2048
    go_enter Tryz.func69, Tryz.ntmps69
    go_wp2_with fail
    refine bodyPost_ret (v := .tuple #[.slice none 0 0, .int .i64 0, .int .i64 2]) (by simp [results, Tryz.results69, go_sem]) rfl ?_
    unfold LexP; rw [HO.out]
    exact ⟨_, rfl, Tr.nil _ _, Below.refl _ _⟩
  · have hI : ¬ 2048 < (l.length : Int) := by omega
    have HLong := hid h2048
    have hlI : (l.length : Int) ≤ 2048 := by omega
    clear h2048
    have hsp0 := spanN_le isBl l
    have HS0 := hid (span17 l (by omega))
    have HJ := hid (join_sp (l := l) (ts := []) (k := 0) (by simp [joinT]; cases lexA 0 l <;> rfl))
    have HStop := hid (stop_sp l 0)
    simp only [Nat.zero_add, List.drop_zero] at HJ HStop
    generalize spanN isBl l = k0 at *
    have hk0 : (k0 : Int) ≤ l.length := by omega
    clear hsp0
    have M0 : Hid True := hid trivial
    go_enter Tryz.func69, Tryz.ntmps69
    go_wp2_with (go_at_call 112; clear M0; refine (HS0.out _).mono ?_; rintro e w2 ⟨rfl, hw2⟩; replace hw2 := hw2.symm; subst hw2)
    go_loopw [2, 5] (fun v i wr => ∃ (k : Nat) (ts : List Tk), (k : Int) ≤ l.length ∧ i = .int .i64 k ∧ Hid (Lq w wr l v k ts)) (fun _ i _ => l.length - (intOf i).toNat)
    case atStart => exact ⟨k0, [], hk0, rfl, HJ.out, HStop.out, Nat.zero_le _, Tr.nil _ _, Below.refl _ _⟩
    case round =>
      obtain ⟨k, ts, hk, rfl, HQ⟩ := hrel
      clear HS0 HJ HStop
      by_cases hlt : k < l.length
      · have HLT := hid hlt
        have hkI : (k : Int) < l.length := by omega
        have hs := slF l k (by omega)
        have HB := hid (HQ.out.2.1 hlt)
        have hdl : (l.drop k).length = l.length - k := by simp
        have HFi := hid (fun w hG => first_any (l.drop k) (by omega) (by omega) w hG)
        have hG1 := hid (hG.next HQ.out.2.2.2.2)
        clear hdl
        cases hf : firstS (l.drop k) with
        | none =>
          have HO := hid (lexO_bad HLong.out (join_bad HQ.out.1 hlt HB.out hf))
          rw [hf] at HFi
          clear hf HB
          go_wp2_with (first
            | (go_at_call 114; refine (HFi.out _ hG1.out).mono ?_; rintro e w3 ⟨rfl, hb⟩; have HBB := hid (HQ.out.2.2.2.2.trans (hb.mono HQ.out.2.2.2.2.size)); clear hb; unfold ansV))
          refine bodyPost_ret (v := .tuple #[.slice none 0 0, .int .i64 (k : Int), .int .i64 110]) (by simp [results, Tryz.results69, go_sem]) rfl ?_
          unfold LexP; rw [HO.out]
          exact ⟨_, rfl, Tr.nil _ _, HBB.out.alloc HBB.out.size _⟩
        | some x =>
          obtain ⟨t, n⟩ := x
          have hp := firstS_pos hf
          rw [List.length_drop] at hp
          have HJ := hid (join_sp (join_tok HQ.out.1 hlt HB.out hf))
          have HSt := hid (stop_sp l (k + n))
          have hsl := spanN_le isBl (l.drop (k + n))
          rw [List.length_drop] at hsl
          have HS := hid (span17 (l.drop (k + n)) (by rw [List.length_drop]; omega))
          have hs2 := slF l (k + n) (by omega)
          simp only [Int.natCast_add] at hs2
          rw [hf] at HFi
          clear hf HB
          generalize spanN isBl (l.drop (k + n)) = q at *
          have hnI : ¬ (n : Int) = 0 := by omega
          have hkn : (k : Int) + n + q ≤ l.length := by omega
          clear hsl hp
          go_wp2_with (first
            | (go_at_call 114; refine (HFi.out _ hG1.out).mono ?_; rintro e w3 ⟨rfl, hb⟩; have HBB := hid (HQ.out.2.2.2.2.trans (hb.mono HQ.out.2.2.2.2.size)); have HTr := hid (HQ.out.2.2.2.1.on hb); clear hb HFi; unfold ansV)
            | (at_builtin; refine appT (t := { t with at_ := k }) rfl _ _ rfl rfl ((HTr.out.alloc _).alloc _) rfl (two_boxes _ _ _ _ _ _) (by have := HQ.out.2.2.1; omega) (by have := HBB.out.size; simp; omega) ?_; intro v1 w1 ho1 hb1; have HTr1 := hid ho1; have HBB1 := hid (below_two HBB.out hb1); clear ho1 hb1)
            | (go_at_call 112; refine (HS.out _).mono ?_; rintro e w5 ⟨rfl, hw5⟩; replace hw5 := hw5.symm; subst hw5))
          go_roundw
          case rel =>
            exact ⟨k + n + q, ts ++ [{ t with at_ := k }], by omega, by go_num, HJ.out, HSt.out, by simp; have := HQ.out.2.2.1; omega, HTr1.out, HBB1.out⟩
          case measure => simp [intOf]; omega
      · have HO := hid (lexO_ok HLong.out (join_end HQ.out.1 hlt))
        go_wp2_with fail
        refine bodyPost_ret (v := .tuple #[u2, .int .i64 0, .int .i64 0]) (by simp [results, Tryz.results69, go_sem]) rfl ?_
        unfold LexP; rw [HO.out]
        exact ⟨_, rfl, HQ.out.2.2.2.1, HQ.out.2.2.2.2⟩
end Go.Proofs.YtmpjmimhoikknaaGreatDoor
namespace Go.Proofs.YtmpjmimhoikknaaGreatDoor
open Go.RowKit Go.Joins

section
variable {ts : List Tp} {w : World} {tv : Value}
theorem q_box {w w1 w2 : World} {v v0 : Value} {ns : List Np} (h1 : w1.heap[w.heap.size]? = some (.cells #[v0] 24 (0, 0))) (hb0 : Below w.heap.size w w1) (hn : Nq w1.heap.size w2 v ns) (hb : Below w1.heap.size w1 w2) :
    (w2.setCell ⟨w.heap.size, 0, none⟩ v).heap[w.heap.size]? = some (.cells #[v] 24 (0, 0)) ∧ Nq w.heap.size (w2.setCell ⟨w.heap.size, 0, none⟩ v) v ns ∧ Below w.heap.size w (w2.setCell ⟨w.heap.size, 0, none⟩ v) := by
  have k := block_on h1 hb
  have hl := lt_of_block h1
  refine ⟨?_, ?_, ?_⟩
  · have := block_set k 0 v; simpa using this
  · exact (hn.kp (Kp.set (T := fun k => k = w.heap.size) rfl _) (fun k e => by omega)).le hb0.size
  · exact (hb0.trans (hb.mono hb0.size)).setCell (by simp) _
theorem q_box2 {w w1 w2 W : World} {v v0 : Value} {ns : List Np} (h1 : w1.heap[w.heap.size]? = some (.cells #[v0] 24 (0, 0))) (hb0 : Below w.heap.size w w1) (hn : Nq w1.heap.size w2 v ns) (hb : Below w1.heap.size w1 w2) (hk : Kp (fun k => k = w.heap.size) w2 W) : Nq w.heap.size W v ns ∧ Below w.heap.size w W := by
  have hl := lt_of_block h1
  exact ⟨(hn.kp hk (fun k e => by omega)).le hb0.size, (hb0.trans (hb.mono hb0.size)).trans (hk.below (Nat.le_trans hb0.size hb.size) (fun k e => by omega))⟩
theorem q_set {W : World} {n : Nat} {v0 : Value} (h : W.heap[n]? = some (.cells #[v0] 24 (0, 0))) (v : Value) : (W.setCell ⟨n, 0, none⟩ v).heap[n]? = some (.cells #[v] 24 (0, 0)) := by
  have := block_set h 0 v; simpa using this
set_option maxRecDepth 100000 in
set_option maxHeartbeats 1000000 in
theorem Parse_any (htok : SlAt (fun b => b < w.heap.size) Tp.cells 4 w tv ts) : Calls Tryz.prog 41 #[tv] w (WhP w (parseS ts)) := by
  have HB0 : Hid (Below w.heap.size w (w.alloc (.cells #[.slice none 0 0] 24))) := (Below.refl _ _).alloc (Nat.le_refl _) _
  have HZ := hid (alloc_block w (.cells #[.slice none 0 0] 24))
  have HC := hid (whole_query ((htok.on HB0.out).imp (fun b hb => by simp; omega)))
  have HP : Hid (wholeS ts (queryS ts 16) = parseS ts) := rfl
  rw [HP.out] at HC
  generalize parseS ts = R at *
  generalize hW : w.alloc (.cells #[.slice none 0 0] 24) = w1 at *
  have HW := hid hW
  obtain ⟨p, cap, rfl, hc1, hc2⟩ := htok.form
  clear htok hW
  go_enter Tryz.func41, Tryz.ntmps41
  go_upto_region 1 with fail
  rw [HW.out]
  go_wp2_with (go_at_call 67; refine HC.out.mono ?_; rintro e w2 ⟨v, rfl, hn, hb⟩; have HX := hid (q_box HZ.out HB0.out hn hb); have kz := block_cell (block_on HZ.out hb); have fz := block_frozen (block_on HZ.out hb); obtain ⟨qs, ho, -⟩ := hn; obtain ⟨pv, cv, rfl⟩ := ho.form; clear hb ho)
  have k9 := block_cell HX.out.1
  refine bodyPost_ret (v := .tuple #[.agg #[.slice pv qs.length cv], .int .i64 (R.2.1 : Int), .int .i64 R.2.2]) (by simp [results, Tryz.results41, go_sem, k9]) rfl ?_
  exact ⟨_, rfl, HX.out.2.1, HX.out.2.2⟩
/- Lex's tokens as the reader has them. -/
def tp (t : Tk) : Tp := ⟨(t.kind : Int), t.s, t.n, (t.at_ : Int)⟩
theorem SlAt.map {α β : Type} {Q : Nat → Prop} {e1 : α → List Value} {e2 : β → List Value} {k : Nat} {w : World} {v : Value} {xs : List α} {f : α → β} (h : SlAt Q e1 k w v xs) (he : ∀ x, e2 (f x) = e1 x) : SlAt Q e2 k w v (xs.map f) := by
  obtain ⟨p, cap, hv, hc, hx⟩ := h
  refine ⟨p, cap, by simpa using hv, by simpa using hc, fun hne => ?_⟩
  obtain ⟨b, o, hp, hQ, hj⟩ := hx (by simpa using hne)
  refine ⟨b, o, hp, hQ, fun j y hy => ?_⟩
  rw [List.getElem?_map] at hy
  cases hx : xs[j]? with
  | none => rw [hx] at hy; cases hy
  | some x => rw [hx] at hy; cases hy; rw [he]; exact hj j x hx
theorem Tr.sl2 {B : Nat} {w : World} {v : Value} {tks : List Tk} (h : Tr B w v tks) : SlAt (fun b => B ≤ b ∧ b < w.heap.size) Tp.cells 4 w v (tks.map tp) :=
  (Own.sl (enc := tkC) (k := 4) (e := 85) h (fun _ => rfl)).map (fun _ => rfl)
theorem Tr.sl {B : Nat} {w : World} {v : Value} {tks : List Tk} (h : Tr B w v tks) : SlAt (fun b => b < w.heap.size) Tp.cells 4 w v (tks.map tp) :=
  ((Own.sl (enc := tkC) (k := 4) (e := 85) h (fun _ => rfl)).imp (fun _ hb => hb.2)).map (fun _ => rfl)
def placeS (tks : List Tk) (n len : Nat) : Nat := match tks[n]? with
  | some t => t.at_
  | none => len
/- What Query answers. -/
def queryO (l : List UInt8) : List Np × Nat × Int := match lexO l with
  | (tks, a, e) => if e = 0 then (if (parseS (tks.map tp)).2.2 = 0 then ((parseS (tks.map tp)).1, 0, 0) else ([], placeS tks (parseS (tks.map tp)).2.1 l.length, (parseS (tks.map tp)).2.2)) else ([], a, e)
end
end Go.Proofs.YtmpjmimhoikknaaGreatDoor
namespace Go.Proofs.YtmpjmimhoikknaaGreatDoor
open Go.RowKit Go.Joins

/- The tables of words lie where the program's text lays them. -/
def howL : List (List UInt8) := [] :: howW
def aggL : List (List UInt8) := [] :: aggW
def kindL : List (List UInt8) := [[], []] ++ stepW ++ [[], [], wAnd, wOr]
structure Gp (w : World) : Prop where
  g : Gd w
  how : ∀ i, i < 7 → w.cell? ⟨1, i, none⟩ = some (.string (St (howL.getD i [])))
  agg : ∀ i, i < 7 → w.cell? ⟨3, i, none⟩ = some (.string (St (aggL.getD i [])))
  kind : ∀ i, i < 13 → w.cell? ⟨0, i, none⟩ = some (.string (St (kindL.getD i [])))
theorem Gp.next {w w' : World} (h : Gp w) (hB : Below w.heap.size w w') : Gp w' := by
  have h9 : 9 ≤ w.heap.size := h.g.2.1
  exact ⟨h.g.next hB, fun i hi => (hB.cell (p := ⟨1, i, none⟩) (show 1 < w.heap.size by omega)).trans (h.how i hi), fun i hi => (hB.cell (p := ⟨3, i, none⟩) (show 3 < w.heap.size by omega)).trans (h.agg i hi), fun i hi => (hB.cell (p := ⟨0, i, none⟩) (show 0 < w.heap.size by omega)).trans (h.kind i hi)⟩
def belowN (k : Int) : Int :=
  if k = 1 ∨ k = 14 ∨ k = 15 then 0 else if k = 3 ∨ k = 4 ∨ k = 5 ∨ k = 6 ∨ k = 13 then 1 else if k = 2 ∨ k = 7 ∨ k = 8 ∨ k = 11 ∨ k = 12 then 2 else -1
def bindsN (k : Int) : Int := if k = 12 then 1 else if k = 11 then 2 else 3
def wordL (t : List (List UInt8)) (k : Int) : List UInt8 := if 0 ≤ k ∧ k < 7 then t.getD k.toNat [] else []
set_option maxRecDepth 100000 in
set_option maxHeartbeats 1000000 in
theorem binds_any (k : Int) (w : World) : Calls Tryz.prog 138 #[.int .i64 k] w fun e w' => e = .returned (.int .i64 (bindsN k)) ∧ w' = w := by
  by_cases h12 : k = 12
  · subst h12
    go_enter Tryz.func138, Tryz.ntmps138
    go_wp2_with fail
    go_ret
    exact ⟨rfl, rfl⟩
  · have b12 : (k == 12) = false := by simp [h12]
    by_cases h11 : k = 11
    · subst h11
      go_enter Tryz.func138, Tryz.ntmps138
      go_wp2_with fail
      go_ret
      exact ⟨rfl, rfl⟩
    · have b11 : (k == 11) = false := by simp [h11]
      have HE : Hid (bindsN k = 3) := by show _ = _; unfold bindsN; rw [if_neg h12, if_neg h11]
      clear h12 h11
      go_enter Tryz.func138, Tryz.ntmps138
      go_wp2_with fail
      go_ret
      exact ⟨by rw [HE.out]; rfl, rfl⟩
set_option maxRecDepth 100000 in
set_option maxHeartbeats 4000000 in
theorem below_any (k : Int) (w : World) : Calls Tryz.prog 66 #[.int .i64 k] w fun e w' => e = .returned (.int .i64 (belowN k)) ∧ w' = w := by
  by_cases hk : k = 1 ∨ k = 14 ∨ k = 15 ∨ k = 3 ∨ k = 4 ∨ k = 5 ∨ k = 6 ∨ k = 13 ∨ k = 2 ∨ k = 7 ∨ k = 8 ∨ k = 11 ∨ k = 12
  · rcases hk with rfl | rfl | rfl | rfl | rfl | rfl | rfl | rfl | rfl | rfl | rfl | rfl | rfl
    all_goals
      (go_enter Tryz.func66, Tryz.ntmps66
       go_wp2_with fail
       go_ret
       exact ⟨rfl, rfl⟩)
  · have HE : Hid (belowN k = -1) := by show _ = _; unfold belowN; rw [if_neg (by omega), if_neg (by omega), if_neg (by omega)]
    have b1 : (k == 1) = false := by simp; omega
    have b14 : (k == 14) = false := by simp; omega
    have b15 : (k == 15) = false := by simp; omega
    have b3 : (k == 3) = false := by simp; omega
    have b4 : (k == 4) = false := by simp; omega
    have b5 : (k == 5) = false := by simp; omega
    have b6 : (k == 6) = false := by simp; omega
    have b13 : (k == 13) = false := by simp; omega
    have b2 : (k == 2) = false := by simp; omega
    have b7 : (k == 7) = false := by simp; omega
    have b8 : (k == 8) = false := by simp; omega
    have b11 : (k == 11) = false := by simp; omega
    have b12 : (k == 12) = false := by simp; omega
    clear hk
    go_enter Tryz.func66, Tryz.ntmps66
    go_wp2_with fail
    go_ret
    exact ⟨by rw [HE.out]; rfl, rfl⟩
set_option maxRecDepth 100000 in
set_option maxHeartbeats 1000000 in
theorem how_word (k : Int) (w : World) (hG : Gp w) : Calls Tryz.prog 139 #[.int .i64 k] w fun e w' => e = .returned (.string (St (wordL howL k))) ∧ w' = w := by
  by_cases h0 : k < 0
  · have HE : Hid (wordL howL k = []) := by show _ = _; unfold wordL; rw [if_neg (by omega)]
    go_enter Tryz.func139, Tryz.ntmps139
    go_wp2_with fail
    go_ret
    exact ⟨by rw [HE.out]; rfl, rfl⟩
  · by_cases h7 : k < 7
    · obtain ⟨n, rfl⟩ : ∃ n : Nat, k = n := ⟨k.toNat, by omega⟩
      have hn : n < 7 := by omega
      have HE : Hid (wordL howL n = howL.getD n []) := by show _ = _; unfold wordL; rw [if_pos (by omega)]; rfl
      have c0 := hG.how n hn
      have n0 : (0 : Int) ≤ n := by omega
      have n7 : ¬ (7 : Int) ≤ n := by omega
      clear hn
      generalize howL.getD n [] = x at *
      go_enter Tryz.func139, Tryz.ntmps139
      go_wp2_with fail
      go_ret
      exact ⟨by rw [HE.out]; rfl, rfl⟩
    · have HE : Hid (wordL howL k = []) := by show _ = _; unfold wordL; rw [if_neg (by omega)]
      have n7 : (7 : Int) ≤ k := by omega
      go_enter Tryz.func139, Tryz.ntmps139
      go_wp2_with fail
      go_ret
      exact ⟨by rw [HE.out]; rfl, rfl⟩
set_option maxRecDepth 100000 in
set_option maxHeartbeats 1000000 in
theorem agg_word (k : Int) (w : World) (hG : Gp w) : Calls Tryz.prog 178 #[.int .i64 k] w fun e w' => e = .returned (.string (St (wordL aggL k))) ∧ w' = w := by
  by_cases h0 : k < 0
  · have HE : Hid (wordL aggL k = []) := by show _ = _; unfold wordL; rw [if_neg (by omega)]
    go_enter Tryz.func178, Tryz.ntmps178
    go_wp2_with fail
    go_ret
    exact ⟨by rw [HE.out]; rfl, rfl⟩
  · by_cases h7 : k < 7
    · obtain ⟨n, rfl⟩ : ∃ n : Nat, k = n := ⟨k.toNat, by omega⟩
      have hn : n < 7 := by omega
      have HE : Hid (wordL aggL n = aggL.getD n []) := by show _ = _; unfold wordL; rw [if_pos (by omega)]; rfl
      have c0 := hG.agg n hn
      have n0 : (0 : Int) ≤ n := by omega
      have n7 : ¬ (7 : Int) ≤ n := by omega
      clear hn
      generalize aggL.getD n [] = x at *
      go_enter Tryz.func178, Tryz.ntmps178
      go_wp2_with fail
      go_ret
      exact ⟨by rw [HE.out]; rfl, rfl⟩
    · have HE : Hid (wordL aggL k = []) := by show _ = _; unfold wordL; rw [if_neg (by omega)]
      have n7 : (7 : Int) ≤ k := by omega
      go_enter Tryz.func178, Tryz.ntmps178
      go_wp2_with fail
      go_ret
      exact ⟨by rw [HE.out]; rfl, rfl⟩
end Go.Proofs.YtmpjmimhoikknaaGreatDoor
namespace Go.Proofs.YtmpjmimhoikknaaGreatDoor
open Go.RowKit Go.Joins

section
variable {ts : List Tp} {w : World} {tv : Value}
end
end Go.Proofs.YtmpjmimhoikknaaGreatDoor
namespace Go.Proofs.YtmpjmimhoikknaaGreatDoor
open Go.RowKit Go.Joins
def sgnOf (l : List UInt8) : List UInt8 := match signS l with | some (t, _) => t.s | none => []
abbrev twoC : Array Value := #[.string ⟨#[33, 61]⟩, .string ⟨#[60, 61]⟩, .string ⟨#[62, 61]⟩]
theorem twoC_at (i : Nat) (h : i < 3) : twoC[i]? = some (.string (St (signsL.getD i []))) := by
  match i, h with
  | 0, _ => rfl
  | 1, _ => rfl
  | 2, _ => rfl
theorem two_cell (w : World) (i : Nat) (h : i < 3) : (w.alloc (.cells twoC 9)).cell? ⟨w.heap.size, i, none⟩ = some (.string (St (signsL.getD i []))) := by
  rw [block_cell (alloc_block w _) i, twoC_at i h]
def oneL : List UInt8 := [124, 44, 40, 41, 58, 61, 60, 62]
theorem one_idx (i : Nat) (h : i < 8) (w : World) : (Instr.index 9 (.string ⟨#[124, 44, 40, 41, 58, 61, 60, 62]⟩) (.int .i64 (i : Int))).run Tryz.prog w = .ok (.int .u8 ((oneL.getD i 0).toNat : Int)) w := by
  have := idx oneL i h w
  rw [List.getD_eq_getElem?_getD, List.getElem?_eq_getElem (show i < oneL.length from h)]
  exact this
theorem one_is (i : Nat) (h : i < 8) : signsL.getD (3 + i) [] = [oneL.getD i 0] := by
  match i, h with
  | 0, _ => rfl
  | 1, _ => rfl
  | 2, _ => rfl
  | 3, _ => rfl
  | 4, _ => rfl
  | 5, _ => rfl
  | 6, _ => rfl
  | 7, _ => rfl
theorem two_len (i : Nat) (h : i < 3) : (signsL.getD i []).length = 2 := by
  match i, h with
  | 0, _ => rfl
  | 1, _ => rfl
  | 2, _ => rfl
theorem sgnOf_yes {l x : List UInt8} {n : Nat} (h : signS l = some (⟨4, x, 0, 0⟩, n)) : sgnOf l = x := by unfold sgnOf; rw [h]
theorem sgnOf_no {l : List UInt8} (h : signS l = none) : sgnOf l = [] := by unfold sgnOf; rw [h]
theorem below_a {w w' : World} {o : Obj} (h : Below (w.alloc o).heap.size (w.alloc o) w') : Below w.heap.size w w' := ((Below.refl _ w).alloc (Nat.le_refl _) o).trans (h.mono (by simp))
theorem pre_one {c d : UInt8} {r : List UInt8} : [d].isPrefixOf (c :: r) = (d == c) := by simp [List.isPrefixOf]
set_option maxRecDepth 100000 in
set_option maxHeartbeats 1000000 in
theorem rsign_any (l : List UInt8) (hl : (l.length : Int) ≤ 140737488355328) (h1 : 0 < l.length) (w : World) : Calls Tryz.prog 80 #[.string (St l)] w fun e w' => e = .returned (.string (St (sgnOf l))) ∧ Below w.heap.size w w' := by
  have hsz := St_size l
  have h1I : 0 < (l.length : Int) := by omega
  have HC := hid (two_cell w)
  go_enter Tryz.func80, Tryz.ntmps80
  go_wp2_with fail
  go_loopw [4] (fun i wr => ∃ k : Nat, (k : Int) ≤ 3 ∧ i = .int .i64 k ∧ Hid (∀ i, i < k → (signsL.getD i []).isPrefixOf l = false) ∧ Hid (Below (w.alloc (.cells twoC 9)).heap.size (w.alloc (.cells twoC 9)) wr)) (fun i _ => 3 - (intOf i).toNat)
  case atStart => exact ⟨0, by omega, rfl, fun i hi => by omega, Below.refl _ _⟩
  case round =>
    obtain ⟨k, hk, rfl, HA, HB⟩ := hrel
    by_cases hlt : k < 3
    · have hkI : (k : Int) < 3 := by omega
      have hcell : wr.cell? ⟨w.heap.size, k, none⟩ = some (.string (St (signsL.getD k []))) := (HB.out.cell (p := ⟨w.heap.size, k, none⟩) (by simp)).trans (HC.out k hlt)
      have hpi := pre_is l (signsL.getD k [])
      have hx2 := two_len k hlt
      rw [hx2] at hpi
      have HY := hid (@sign_yes l k (by omega) HA.out)
      have HPI := hid hpi
      clear hpi
      generalize hx : signsL.getD k [] = x at *
      have HX := hid hx
      clear hx
      by_cases h2 : 2 ≤ l.length
      · have h2I : (2 : Int) ≤ l.length := by omega
        have hs := slT l 2 h2
        simp only [show ((2 : Nat) : Int) = 2 from rfl] at hs
        have he := St_eq (l.take 2) x
        cases hc : (l.take 2 == x) with
        | true =>
          have hp : x.isPrefixOf l = true := by rw [HPI.out, hc]; simp [h2]
          have HZ := hid (HY.out hp)
          rw [hc] at he
          clear HY hc hp
          go_upto_region 5 with fail
          go_quiet (fail)
          go_wp2_with fail
          go_ret
          exact ⟨by rw [sgnOf_yes HZ.out]; rfl, below_drewN (below_a HB.out) _⟩
        | false =>
          have HNP := hid (show x.isPrefixOf l = false by rw [HPI.out, hc]; simp)
          rw [hc] at he
          clear HY hc
          go_upto_region 5 with fail
          go_quiet (fail)
          go_wp2_with fail
          go_roundw
          case rel =>
            refine ⟨k + 1, by omega, by go_num, ?_, below_drewN HB.out _⟩
            intro i hi
            rcases Nat.lt_or_ge i k with h | h
            · exact HA.out i h
            · obtain rfl : i = k := by omega
              rw [HX.out]; exact HNP.out
          case measure => simp [intOf]; omega
      · have HNP := hid (show x.isPrefixOf l = false by rw [HPI.out]; simp [h2])
        have h2I : ¬ (2 : Int) ≤ l.length := by omega
        clear HY
        go_upto_region 5 with fail
        go_quiet (fail)
        go_wp2_with fail
        go_roundw
        case rel =>
          refine ⟨k + 1, by omega, by go_num, ?_, below_drewN HB.out _⟩
          intro i hi
          rcases Nat.lt_or_ge i k with h | h
          · exact HA.out i h
          · obtain rfl : i = k := by omega
            rw [HX.out]; exact HNP.out
        case measure => simp [intOf]; omega
    · have hk3 : k = 3 := by omega
      subst hk3
      have hsz8 : (⟨#[124, 44, 40, 41, 58, 61, 60, 62]⟩ : ByteArray).size = 8 := rfl
      have hi0 := idx l 0 h1
      simp only [Int.natCast_zero] at hi0
      have hs := slT l 1 (by omega)
      simp only [show ((1 : Nat) : Int) = 1 from rfl] at hs
      obtain ⟨c, r, hcr⟩ : ∃ c r, l = c :: r := by
        cases l with
        | nil => simp at h1
        | cons c r => exact ⟨c, r, rfl⟩
      have HCR := hid hcr
      have HC0 := hid (show l[0] = c by subst hcr; rfl)
      rw [HC0.out] at hi0
      have HT1 := hid (show l.take 1 = [c] by subst hcr; rfl)
      rw [HT1.out] at hs
      clear hcr
      go_wp2_with fail
      go_loopw [6] (fun i wx => ∃ q : Nat, (q : Int) ≤ 8 ∧ i = .int .i64 q ∧ Hid (∀ i, i < 3 + q → (signsL.getD i []).isPrefixOf l = false) ∧ Hid (Below w.heap.size w wx)) (fun i _ => 8 - (intOf i).toNat)
      case atStart => exact ⟨0, by omega, rfl, HA.out, below_a HB.out⟩
      case round =>
        obtain ⟨q, hq, rfl, HA2, HB2⟩ := hrel
        by_cases hlt2 : q < 8
        · have hqI : (q : Int) < 8 := by omega
          have hio := one_idx q hlt2
          have HY := hid (@sign_yes l (3 + q) (by omega) HA2.out)
          rw [one_is q hlt2] at HY
          have HX := hid (one_is q hlt2)
          generalize oneL.getD q 0 = d at *
          by_cases hcd : c = d
          · subst hcd
            have HZ := hid (HY.out (by rw [HCR.out, pre_one]; simp))
            have hcc : ((c.toNat : Int) == (c.toNat : Int)) = true := by simp
            clear HY
            go_upto_region 11 with fail
            go_quiet (fail)
            go_wp2_with fail
            go_ret
            exact ⟨by rw [sgnOf_yes HZ.out]; rfl, below_drewN HB2.out _⟩
          · have hcc : ¬ (c.toNat : Int) = (d.toNat : Int) := fun e => hcd (UInt8.toNat_inj.1 (by omega))
            have HNP := hid (show [d].isPrefixOf l = false by rw [HCR.out, pre_one]; simp; exact fun e => hcd e.symm)
            clear HY
            go_upto_region 11 with fail
            go_quiet (fail)
            go_wp2_with fail
            go_roundw
            case rel =>
              refine ⟨q + 1, by omega, by go_num, ?_, below_drewN HB2.out _⟩
              intro i hi
              rcases Nat.lt_or_ge i (3 + q) with h | h
              · exact HA2.out i h
              · obtain rfl : i = 3 + q := by omega
                rw [HX.out]; exact HNP.out
            case measure => simp [intOf]; omega
        · have hq8 : q = 8 := by omega
          subst hq8
          have HZ := hid (sgnOf_no (sign_no (l := l) (fun i hi => HA2.out i hi)))
          go_wp2_with fail
          go_ret
          exact ⟨by rw [HZ.out]; rfl, HB2.out⟩
end Go.Proofs.YtmpjmimhoikknaaGreatDoor
namespace Go.Proofs.YtmpjmimhoikknaaGreatDoor
open Go.RowKit Go.Joins
/-- What is read: the number, and whether it is one. -/
def RNumP (ng : Bool) (v : Nat) (w : World) (e : Ending) (w' : World) : Prop :=
  (∃ x : Int, e = .returned (.tuple #[.int .i64 x, .bool (numV ng v).isSome]) ∧ ∀ y, numV ng v = some y → x = y) ∧ w' = w
theorem dval_step (ds : List UInt8) (k : Nat) (h : k < ds.length) : dval (ds.take (k + 1)) = dstep (dval (ds.take k)) ds[k] := by
  unfold dval
  rw [List.take_succ_eq_append_getElem h, dvalF_append, dvalF_cons, dvalF_nil]
theorem dval_le (ds : List UInt8) (k : Nat) : dval (ds.take k) ≤ dval ds := by
  have h : ds.take k ++ ds.drop k = ds := List.take_append_drop k ds
  unfold dval
  conv => rhs; rw [← h, dvalF_append]
  exact dvalF_acc _ _
theorem tdiv_is (d : Nat) (hd : d ≤ 9) : (-9223372036854775808 + (d : Int)).tdiv 10 = -(((9223372036854775808 - d) / 10 : Nat) : Int) := by
  have h2 := Int.neg_tdiv (9223372036854775808 - (d : Int)) 10
  have h3 := Int.tdiv_eq_ediv_of_nonneg (a := 9223372036854775808 - (d : Int)) (b := 10) (by omega)
  have h4 : -(9223372036854775808 - (d : Int)) = -9223372036854775808 + (d : Int) := by omega
  rw [h4] at h2
  rw [h2, h3]
  omega
theorem numV_no (ng : Bool) (v : Nat) (h : 9223372036854775808 < v) : numV ng v = none := by
  cases ng
  · exact numV_fn v (by omega)
  · exact numV_tn v (by omega)
set_option maxRecDepth 100000 in
set_option maxHeartbeats 1000000 in
theorem rnum_t (ds : List UInt8) (hd : ∀ x ∈ ds, isDg x = true) (hne : 0 < ds.length) (hl : (ds.length : Int) ≤ 140737488355328) (w : World) : Calls Tryz.prog 79 #[.string (St (45 :: ds))] w (RNumP true (dval ds) w) := by
  have hsd := St_size ds
  have hneI : 0 < (ds.length : Int) := by omega
  have HD := hid hd
  clear hd
  have HV := hid (dval_le ds)
  have HE := hid (show dval (ds.take ds.length) = dval ds by rw [List.take_length])
  have HN := hid (numV_no true (dval ds))
  have HSt := hid (dval_step ds)
  generalize dval ds = v at *
  have hi0 := idx (45 :: ds) 0 (by simp)
  simp only [Int.natCast_zero, List.getElem_cons_zero, show (UInt8.toNat 45) = 45 from rfl] at hi0
  have hsl := slF (45 :: ds) 1 (by simp)
  simp only [List.drop_succ_cons, List.drop_zero, show ((1 : Nat) : Int) = 1 from rfl] at hsl
  have hs45 := St_size (45 :: ds)
  have h45l : (45 :: ds).length = ds.length + 1 := rfl
  rw [h45l] at hs45
  go_enter Tryz.func79, Tryz.ntmps79
  go_wp2_with fail
  go_loopw [4, 6] (fun n i wr => ∃ (k u : Nat), (k : Int) ≤ ds.length ∧ i = .int .i64 k ∧ n = .int .i64 (-(u : Int)) ∧ Hid (u = dval (ds.take k)) ∧ Hid (u ≤ 9223372036854775808) ∧ w = wr) (fun _ i _ => ds.length - (intOf i).toNat)
  case atStart => exact ⟨0, 0, by omega, rfl, rfl, by show _ = _; rfl, by show _ ≤ _; omega, rfl⟩
  case round =>
    obtain ⟨k, u, hk, rfl, rfl, HU, HLe, hw⟩ := hrel
    subst hw
    by_cases hlt : k < ds.length
    · have hi := idx ds k hlt
      have hkI : (k : Int) < ds.length := by omega
      have hcd := HD.out ds[k] (List.getElem_mem _)
      have hst := HSt.out k hlt
      generalize ds[k] = c at *
      simp [isDg] at hcd
      obtain ⟨d, hd⟩ : ∃ d : Nat, c.toNat = 48 + d := ⟨c.toNat - 48, by omega⟩
      have hd9 : d ≤ 9 := by omega
      have hst2 : dval (ds.take (k + 1)) = u * 10 + d := by rw [hst, ← HU.out]; unfold dstep; omega
      have HST := hid hst2
      have hdI : (c.toNat : Int) = 48 + (d : Int) := by omega
      have htd := tdiv_is d hd9
      obtain ⟨m, hm⟩ : ∃ m : Nat, (9223372036854775808 - d) / 10 = m := ⟨_, rfl⟩
      rw [hm] at htd
      have HM := hid hm
      have hd9I : (d : Int) ≤ 9 := by omega
      have hmod : (d : Int) % 256 = d := by omega
      have hdd : (48 : Int) + (d : Int) - 48 = d := by omega
      have hULe := HLe.out
      have hmle : (m : Int) ≤ 922337203685477580 := by omega
      clear hcd hst hst2 hm hd9 hd
      by_cases hov : m < u
      · have hovI : -(u : Int) < -(m : Int) := by omega
        have HNo := hid (HN.out (by have h1 := HV.out (k + 1); rw [HST.out] at h1; have := HM.out; omega))
        have hovI2 : (m : Int) < u := by omega
        clear hULe
        go_wp2_with fail
        refine bodyPost_ret (v := .tuple #[.int .i64 0, .bool false]) (by simp [results, Tryz.results79, go_sem]) rfl ⟨⟨0, ?_, ?_⟩, rfl⟩
        · rw [HNo.out]; rfl
        · intro y hy; rw [HNo.out] at hy; cases hy
      · have hovI : ¬ -(u : Int) < -(m : Int) := by omega
        have hovI2 : ¬ (m : Int) < u := by omega
        have hb1 : (u : Int) * 10 + d ≤ 9223372036854775808 := by have := HM.out; omega
        clear hULe
        go_wp2_with fail
        go_roundw
        case rel =>
          refine ⟨k + 1, u * 10 + d, by omega, by go_num, ?_, ?_, ?_, by first | rfl | trivial⟩
          · congr 1; omega
          · show _ = _; rw [HST.out]
          · show _ ≤ _; omega
        case measure => simp [intOf]; omega
    · have hkk : k = ds.length := by omega
      subst hkk
      have huv : u = v := by rw [HU.out, HE.out]
      subst huv
      have hfin : numV true u = some (-(u : Int)) := numV_t u (by have := HLe.out; omega)
      have HF := hid hfin
      clear hfin
      go_wp2_with fail
      refine bodyPost_ret (v := .tuple #[.int .i64 (-(u : Int)), .bool true]) (by simp [results, Tryz.results79, go_sem]) rfl ⟨⟨-(u : Int), ?_, ?_⟩, rfl⟩
      · rw [HF.out]; rfl
      · intro y hy; rw [HF.out] at hy; cases hy; rfl
set_option maxRecDepth 100000 in
set_option maxHeartbeats 1000000 in
theorem rnum_f (ds : List UInt8) (hd : ∀ x ∈ ds, isDg x = true) (hne : 0 < ds.length) (hl : (ds.length : Int) ≤ 140737488355328) (w : World) : Calls Tryz.prog 79 #[.string (St ds)] w (RNumP false (dval ds) w) := by
  have hsd := St_size ds
  have hneI : 0 < (ds.length : Int) := by omega
  have HD := hid hd
  clear hd
  have HV := hid (dval_le ds)
  have HE := hid (show dval (ds.take ds.length) = dval ds by rw [List.take_length])
  have HN := hid (numV_no false (dval ds))
  have HSt := hid (dval_step ds)
  generalize dval ds = v at *
  have hi0 := idx ds 0 hne
  simp only [Int.natCast_zero] at hi0
  have hc0 : ¬ ((ds[0].toNat : Nat) : Int) = 45 := by
    have := HD.out ds[0] (List.getElem_mem _)
    simp [isDg] at this; omega
  have hb45 : (((ds[0].toNat : Nat) : Int) == 45) = false := beq_eq_false_iff_ne.2 hc0
  generalize ds[0] = c0 at *
  go_enter Tryz.func79, Tryz.ntmps79
  go_wp2_with fail
  go_loopw [4, 6] (fun n i wr => ∃ (k u : Nat), (k : Int) ≤ ds.length ∧ i = .int .i64 k ∧ n = .int .i64 (-(u : Int)) ∧ Hid (u = dval (ds.take k)) ∧ Hid (u ≤ 9223372036854775808) ∧ w = wr) (fun _ i _ => ds.length - (intOf i).toNat)
  case atStart => exact ⟨0, 0, by omega, rfl, rfl, by show _ = _; rfl, by show _ ≤ _; omega, rfl⟩
  case round =>
    obtain ⟨k, u, hk, rfl, rfl, HU, HLe, hw⟩ := hrel
    subst hw
    by_cases hlt : k < ds.length
    · have hi := idx ds k hlt
      have hkI : (k : Int) < ds.length := by omega
      have hcd := HD.out ds[k] (List.getElem_mem _)
      have hst := HSt.out k hlt
      generalize ds[k] = c at *
      simp [isDg] at hcd
      obtain ⟨d, hd⟩ : ∃ d : Nat, c.toNat = 48 + d := ⟨c.toNat - 48, by omega⟩
      have hd9 : d ≤ 9 := by omega
      have hst2 : dval (ds.take (k + 1)) = u * 10 + d := by rw [hst, ← HU.out]; unfold dstep; omega
      have HST := hid hst2
      have hdI : (c.toNat : Int) = 48 + (d : Int) := by omega
      have htd := tdiv_is d hd9
      obtain ⟨m, hm⟩ : ∃ m : Nat, (9223372036854775808 - d) / 10 = m := ⟨_, rfl⟩
      rw [hm] at htd
      have HM := hid hm
      have hd9I : (d : Int) ≤ 9 := by omega
      have hmod : (d : Int) % 256 = d := by omega
      have hdd : (48 : Int) + (d : Int) - 48 = d := by omega
      have hULe := HLe.out
      have hmle : (m : Int) ≤ 922337203685477580 := by omega
      clear hcd hst hst2 hm hd9 hd
      by_cases hov : m < u
      · have hovI : -(u : Int) < -(m : Int) := by omega
        have HNo := hid (HN.out (by have h1 := HV.out (k + 1); rw [HST.out] at h1; have := HM.out; omega))
        have hovI2 : (m : Int) < u := by omega
        clear hULe
        go_wp2_with fail
        refine bodyPost_ret (v := .tuple #[.int .i64 0, .bool false]) (by simp [results, Tryz.results79, go_sem]) rfl ⟨⟨0, ?_, ?_⟩, rfl⟩
        · rw [HNo.out]; rfl
        · intro y hy; rw [HNo.out] at hy; cases hy
      · have hovI : ¬ -(u : Int) < -(m : Int) := by omega
        have hovI2 : ¬ (m : Int) < u := by omega
        have hb1 : (u : Int) * 10 + d ≤ 9223372036854775808 := by have := HM.out; omega
        clear hULe
        go_wp2_with fail
        go_roundw
        case rel =>
          refine ⟨k + 1, u * 10 + d, by omega, by go_num, ?_, ?_, ?_, by first | rfl | trivial⟩
          · congr 1; omega
          · show _ = _; rw [HST.out]
          · show _ ≤ _; omega
        case measure => simp [intOf]; omega
    · have hkk : k = ds.length := by omega
      subst hkk
      have huv : u = v := by rw [HU.out, HE.out]
      subst huv
      rcases Nat.lt_or_ge u 9223372036854775808 with h9 | h9
      · have HF := hid (numV_f u h9)
        have hg1 : -9223372036854775807 ≤ -(u : Int) := by omega
        have hg2 : (-9223372036854775808 : Int) < -(u : Int) := by omega
        clear h9
        go_wp2_with fail
        refine bodyPost_ret (v := .tuple #[.int .i64 (u : Int), .bool true]) (by simp [results, Tryz.results79, go_sem]) rfl ⟨⟨(u : Int), ?_, ?_⟩, rfl⟩
        · rw [HF.out]; rfl
        · intro y hy; rw [HF.out] at hy; cases hy; rfl
      · have hv9 : u = 9223372036854775808 := by have := HLe.out; omega
        have HF := hid (numV_fn u (by omega))
        have hvI : -(u : Int) = -9223372036854775808 := by omega
        clear h9
        go_wp2_with fail
        refine bodyPost_ret (v := .tuple #[.int .i64 (wrap64 9223372036854775808), .bool false]) (by simp [results, Tryz.results79, go_sem]) rfl ⟨⟨wrap64 9223372036854775808, ?_, ?_⟩, rfl⟩
        · rw [HF.out]; rfl
        · intro y hy; rw [HF.out] at hy; cases hy
theorem rnum_any (ng : Bool) (ds : List UInt8) (hd : ∀ x ∈ ds, isDg x = true) (hne : 0 < ds.length) (hl : (ds.length : Int) ≤ 140737488355328) (w : World) : Calls Tryz.prog 79 #[.string (St (sgnL ng ++ ds))] w (RNumP ng (dval ds) w) := by
  cases ng
  · exact rnum_f ds hd hne hl w
  · exact rnum_t ds hd hne hl w
end Go.Proofs.YtmpjmimhoikknaaGreatDoor
