/-
  What Lex returns.
-/
import Derived.Test.YtomnjckbgmbgmaaGreatDoorQFirst
namespace Go.Proofs.YtomnjckbgmbgmaaGreatDoor
open Go.RowKit Go.Joins

def tkC (t : Tk) : List Value := [.int .i64 t.kind, .string (St t.s), .int .i64 t.n, .int .i64 t.at_]
def tksC (ts : List Tk) : List Value := ts.flatMap tkC
theorem tksC_snoc (ts : List Tk) (t : Tk) : tksC ts ++ tkC t = tksC (ts ++ [t]) := by simp [tksC]
theorem tksC_len (ts : List Tk) : (tksC ts).length = ts.length * 4 := by
  induction ts with
  | nil => rfl
  | cons t r ih => simp only [tksC, List.flatMap_cons, List.length_append, List.length_cons] at ih ⊢; rw [ih]; simp [tkC]; omega
/-- A row of tokens of one's own, of blocks from B on. -/
def Tr (B : Nat) (w : World) (v : Value) (ts : List Tk) : Prop := w.ownsRow B 33 4 v ts.length (tksC ts)
theorem row_on {w w' : World} {B e k n : Nat} {v : Value} {xs : List Value} (h : w.ownsRow B e k v n xs) (hb : Below w.heap.size w w') : w'.ownsRow B e k v n xs := by
  obtain ⟨h1, h2⟩ := h
  refine ⟨h1, ?_⟩
  rcases h2 with h2 | ⟨g, cap, cur, rfl, hg, hc, hr⟩
  · exact .inl h2
  · exact .inr ⟨g, cap, cur, rfl, hg, block_on hc hb, hr⟩
theorem Tr.on {w w' : World} {B : Nat} {v : Value} {ts : List Tk} (h : Tr B w v ts) (hb : Below w.heap.size w w') : Tr B w' v ts := row_on h hb
theorem Tr.nil (B : Nat) (w : World) : Tr B w (.slice none 0 0) [] := World.ownsRow_nil _ _ _ _
theorem Tryz.info33 : (Tryz.prog.info? 33).map (fun i => (i.zero, i.size, i.bytes)) = some (some (.agg #[.int .i64 0, .string ⟨#[]⟩, .int .i64 0, .int .i64 0]), 4, 40) := by kernel_rfl
theorem appT {ops : Array Oper} {rest : List Oper} {o : Oper} {a : Act} {Q : Exit → Act → World → Prop} {w : World} {B : Nat} {v : Value} {g : Nat} {ts : List Tk} {t : Tk}
    (hgd : o.guard = none) (s x : Operand) (ho : o.op = .call { callee := .builtin .append, args := #[s, x], argTypes := #[22, 22] })
    (hs : a.eval s = v) (hown : Tr B w v ts) (hx : a.eval x = .slice (some ⟨g, 0, none⟩) 1 1) (hc : Bx w g (.int .i64 t.kind) (.string (St t.s)) (.int .i64 t.n) (.int .i64 t.at_)) (hn : ts.length ≤ 1000000) (hB : B ≤ w.heap.size)
    (h : ∀ v' w', Tr B w' v' (ts ++ [t]) → Below B w w' → wpList Tryz.prog ops Q rest (a.put o.dst v') w') : wpList Tryz.prog ops Q (o :: rest) a w := by
  obtain ⟨i0, hi, hz0, hz1, hz2⟩ := info_parts Tryz.info33
  obtain ⟨c0, c1, c2, c3⟩ := hc.cells
  refine wpList_append_own w hgd s x 22 ho B 33 i0 _ 4 40 Tryz.underlying22 hi hz0 hz1 hz2 rfl (by decide) v ts.length _ hs hown ⟨g, 0, none⟩ 1 1 (tkC t) hx rfl ?_ ?_ ?_ ?_ hB ?_
  · intro j u hj
    match j, hj with
    | 0, hj => simp [tkC] at hj; subst hj; simpa [Addr.add] using c0
    | 1, hj => simp [tkC] at hj; subst hj; simpa [Addr.add] using c1
    | 2, hj => simp [tkC] at hj; subst hj; simpa [Addr.add] using c2
    | 3, hj => simp [tkC] at hj; subst hj; simpa [Addr.add] using c3
    | n + 4, hj => simp [tkC] at hj
  · intro u hu; simp [tkC] at hu; rcases hu with rfl | rfl | rfl | rfl <;> rfl
  · unfold maxLen; omega
  · omega
  · intro v' w' h1 h2 _
    refine h v' w' ?_ ((Below.refl B w).grown h2 hB (fun k e => (hown.lt k e).1))
    unfold Tr
    rw [← tksC_snoc, List.length_append]
    exact h1
theorem Tr.alloc {w : World} {B : Nat} {v : Value} {ts : List Tk} (h : Tr B w v ts) (o : Obj) : Tr B (w.alloc o) v ts := World.ownsRow.alloc h o
theorem two_boxes (w : World) (o : Obj) (c0 c1 c2 c3 : Value) : Bx ((w.alloc o).alloc (.cells #[c0, c1, c2, c3] 33)) (w.heap.size + 1) c0 c1 c2 c3 := by
  have h := Bx.made (w.alloc o) c0 c1 c2 c3
  rw [World.size_alloc] at h
  exact h
theorem below_two {w0 w w' : World} {o1 o2 : Obj} (h : Below w0.heap.size w0 w) (h2 : Below w0.heap.size ((w.alloc o1).alloc o2) w') : Below w0.heap.size w0 w' :=
  ((h.alloc h.size o1).alloc (by have := h.size; simp; omega) o2).trans h2
/-- What Lex answers: the tokens, the place, the error. -/
def lexO (l : List UInt8) : List Tk × Nat × Int :=
  if 2048 < l.length then ([], 0, 2) else match lexA 0 l with
    | .inl a => ([], a, 110)
    | .inr ts => (ts, 0, 0)
def joinT (ts : List Tk) : Nat ⊕ List Tk → Nat ⊕ List Tk
  | .inl e => .inl e
  | .inr m => .inr (ts ++ m)
theorem lexO_long {l : List UInt8} (h : 2048 < l.length) : lexO l = ([], 0, 2) := by unfold lexO; rw [if_pos h]
theorem lexO_bad {l : List UInt8} {a : Nat} (h : ¬ 2048 < l.length) (h2 : lexA 0 l = .inl a) : lexO l = ([], a, 110) := by unfold lexO; rw [if_neg h, h2]
theorem lexO_ok {l : List UInt8} {ts : List Tk} (h : ¬ 2048 < l.length) (h2 : lexA 0 l = .inr ts) : lexO l = (ts, 0, 0) := by unfold lexO; rw [if_neg h, h2]
theorem join_end {l : List UInt8} {ts : List Tk} {k : Nat} (h : lexA 0 l = joinT ts (lexA k (l.drop k))) (hk : ¬ k < l.length) : lexA 0 l = .inr ts := by
  rw [h, List.drop_of_length_le (by omega), lexA_nil]; simp [joinT]
theorem join_bad {l : List UInt8} {ts : List Tk} {k : Nat} (h : lexA 0 l = joinT ts (lexA k (l.drop k))) (hk : k < l.length) (hb : isBl l[k] = false) (hf : firstS (l.drop k) = none) : lexA 0 l = .inl k := by
  rw [drop_at hk] at hf h
  rw [h, lexA_no k hb hf]; rfl
theorem join_tok {l : List UInt8} {ts : List Tk} {k n : Nat} {t : Tk} (h : lexA 0 l = joinT ts (lexA k (l.drop k))) (hk : k < l.length) (hb : isBl l[k] = false) (hf : firstS (l.drop k) = some (t, n)) :
    lexA 0 l = joinT (ts ++ [{ t with at_ := k }]) (lexA (k + n) (l.drop (k + n))) := by
  rw [drop_at hk] at hf h
  rw [h, lexA_some k hb hf, ← drop_at hk, List.drop_drop]
  cases lexA (k + n) (l.drop (k + n)) <;> simp [joinT]
theorem join_sp {l : List UInt8} {ts : List Tk} {k : Nat} (h : lexA 0 l = joinT ts (lexA k (l.drop k))) : lexA 0 l = joinT ts (lexA (k + spanN isBl (l.drop k)) (l.drop (k + spanN isBl (l.drop k)))) := by
  rw [h, lexA_span k (l.drop k), List.drop_drop]
def Nb (l : List UInt8) (k : Nat) : Prop := ∀ h : k < l.length, isBl l[k] = false
theorem stop_sp (l : List UInt8) (k : Nat) : Nb l (k + spanN isBl (l.drop k)) := by
  intro h
  have := spanN_stop isBl (l.drop k) (by simp; omega)
  rw [List.getElem_drop] at this
  exact this
/-- The loop's state: how far, which tokens. -/
def Lq (w wr : World) (l : List UInt8) (v : Value) (k : Nat) (ts : List Tk) : Prop :=
  lexA 0 l = joinT ts (lexA k (l.drop k)) ∧ Nb l k ∧ ts.length ≤ k ∧ Tr w.heap.size wr v ts ∧ Below w.heap.size w wr
def LexP (l : List UInt8) (w : World) (e : Ending) (w' : World) : Prop :=
  ∃ v, e = .returned (.tuple #[v, .int .i64 ((lexO l).2.1 : Nat), .int .i64 (lexO l).2.2]) ∧ Tr w.heap.size w' v (lexO l).1 ∧ Below w.heap.size w w'
set_option maxRecDepth 100000 in
set_option maxHeartbeats 1000000 in
theorem lex_any (l : List UInt8) (hl : (l.length : Int) ≤ 140737488355328) (w : World) (hG : Gd w) : Calls Tryz.prog 35 #[.string (St l)] w (LexP l w) := by
  have hsz := St_size l
  by_cases h2048 : 2048 < l.length
  · have hI : 2048 < (l.length : Int) := by omega
    have HO := hid (lexO_long h2048)
    clear h2048
    go_enter Tryz.func35, Tryz.ntmps35
    go_wp2_with fail
    refine bodyPost_ret (v := .tuple #[.slice none 0 0, .int .i64 0, .int .i64 2]) (by simp [results, Tryz.results35, go_sem]) rfl ?_
    unfold LexP; rw [HO.out]
    exact ⟨_, rfl, Tr.nil _ _, Below.refl _ _⟩
  · have hI : ¬ 2048 < (l.length : Int) := by omega
    have HLong := hid h2048
    have hlI : (l.length : Int) ≤ 2048 := by omega
    clear h2048
    have hsp0 := spanN_le isBl l
    have HS0 := hid (span17 l (by omega))
    have HJ := hid (join_sp (l := l) (ts := []) (k := 0) (by simp [joinT]; cases lexA 0 l <;> rfl))
    have HStop := hid (stop_sp l 0)
    simp only [Nat.zero_add, List.drop_zero] at HJ HStop
    generalize spanN isBl l = k0 at *
    have hk0 : (k0 : Int) ≤ l.length := by omega
    clear hsp0
    have M0 : Hid True := hid trivial
    go_enter Tryz.func35, Tryz.ntmps35
    go_wp2_with (go_at_call 63; clear M0; refine (HS0.out _).mono ?_; rintro e w2 ⟨rfl, hw2⟩; replace hw2 := hw2.symm; subst hw2)
    go_loopw [2, 5] (fun v i wr => ∃ (k : Nat) (ts : List Tk), (k : Int) ≤ l.length ∧ i = .int .i64 k ∧ Hid (Lq w wr l v k ts)) (fun _ i _ => l.length - (intOf i).toNat)
    case atStart => exact ⟨k0, [], hk0, rfl, HJ.out, HStop.out, Nat.zero_le _, Tr.nil _ _, Below.refl _ _⟩
    case round =>
      obtain ⟨k, ts, hk, rfl, HQ⟩ := hrel
      clear HS0 HJ HStop
      by_cases hlt : k < l.length
      · have HLT := hid hlt
        have hkI : (k : Int) < l.length := by omega
        have hs := slF l k (by omega)
        have HB := hid (HQ.out.2.1 hlt)
        have hdl : (l.drop k).length = l.length - k := by simp
        have HFi := hid (fun w hG => first_any (l.drop k) (by omega) (by omega) w hG)
        have hG1 := hid (hG.next HQ.out.2.2.2.2)
        clear hdl
        cases hf : firstS (l.drop k) with
        | none =>
          have HO := hid (lexO_bad HLong.out (join_bad HQ.out.1 hlt HB.out hf))
          rw [hf] at HFi
          clear hf HB
          go_wp2_with (first
            | (go_at_call 65; refine (HFi.out _ hG1.out).mono ?_; rintro e w3 ⟨rfl, hb⟩; have HBB := hid (HQ.out.2.2.2.2.trans (hb.mono HQ.out.2.2.2.2.size)); clear hb; unfold ansV))
          refine bodyPost_ret (v := .tuple #[.slice none 0 0, .int .i64 (k : Int), .int .i64 110]) (by simp [results, Tryz.results35, go_sem]) rfl ?_
          unfold LexP; rw [HO.out]
          exact ⟨_, rfl, Tr.nil _ _, HBB.out.alloc HBB.out.size _⟩
        | some x =>
          obtain ⟨t, n⟩ := x
          have hp := firstS_pos hf
          rw [List.length_drop] at hp
          have HJ := hid (join_sp (join_tok HQ.out.1 hlt HB.out hf))
          have HSt := hid (stop_sp l (k + n))
          have hsl := spanN_le isBl (l.drop (k + n))
          rw [List.length_drop] at hsl
          have HS := hid (span17 (l.drop (k + n)) (by rw [List.length_drop]; omega))
          have hs2 := slF l (k + n) (by omega)
          simp only [Int.natCast_add] at hs2
          rw [hf] at HFi
          clear hf HB
          generalize spanN isBl (l.drop (k + n)) = q at *
          have hnI : ¬ (n : Int) = 0 := by omega
          have hkn : (k : Int) + n + q ≤ l.length := by omega
          clear hsl hp
          go_wp2_with (first
            | (go_at_call 65; refine (HFi.out _ hG1.out).mono ?_; rintro e w3 ⟨rfl, hb⟩; have HBB := hid (HQ.out.2.2.2.2.trans (hb.mono HQ.out.2.2.2.2.size)); have HTr := hid (HQ.out.2.2.2.1.on hb); clear hb HFi; unfold ansV)
            | (at_builtin; refine appT (t := { t with at_ := k }) rfl _ _ rfl rfl ((HTr.out.alloc _).alloc _) rfl (two_boxes _ _ _ _ _ _) (by have := HQ.out.2.2.1; omega) (by have := HBB.out.size; simp; omega) ?_; intro v1 w1 ho1 hb1; have HTr1 := hid ho1; have HBB1 := hid (below_two HBB.out hb1); clear ho1 hb1)
            | (go_at_call 63; refine (HS.out _).mono ?_; rintro e w5 ⟨rfl, hw5⟩; replace hw5 := hw5.symm; subst hw5))
          go_roundw
          case rel =>
            exact ⟨k + n + q, ts ++ [{ t with at_ := k }], by omega, by go_num, HJ.out, HSt.out, by simp; have := HQ.out.2.2.1; omega, HTr1.out, HBB1.out⟩
          case measure => simp [intOf]; omega
      · have HO := hid (lexO_ok HLong.out (join_end HQ.out.1 hlt))
        go_wp2_with fail
        refine bodyPost_ret (v := .tuple #[u2, .int .i64 0, .int .i64 0]) (by simp [results, Tryz.results35, go_sem]) rfl ?_
        unfold LexP; rw [HO.out]
        exact ⟨_, rfl, HQ.out.2.2.2.1, HQ.out.2.2.2.2⟩
end Go.Proofs.YtomnjckbgmbgmaaGreatDoor
