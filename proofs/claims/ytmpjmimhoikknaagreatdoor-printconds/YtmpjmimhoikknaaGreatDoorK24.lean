/-
  Print's tokens of words.
  The words of nodes that stand within others: they do not hang on where they stand.
  Brackets about a condition change nothing of what is read.
  What the reference's Digits returns, for every number.
-/
import Derived.Test.YtmpjmimhoikknaaGreatDoorK02
import Derived.Test.YtmpjmimhoikknaaGreatDoorK11
import Derived.Test.YtmpjmimhoikknaaGreatDoorK23
import Derived.Lib.ItoaLen
namespace Go.Proofs.YtmpjmimhoikknaaGreatDoor
open Go.RowKit Go.Joins

/- One token a word, or none at all. -/
def tkS : List (List UInt8) → Option (List Tk)
  | [] => some []
  | s :: r => match (lexO s).1 with
    | [t] => (tkS r).map (t :: ·)
    | _ => none
def tokensS (ws : List (List UInt8)) : List Tk := (tkS ws).getD []
theorem tkS_one {s : List UInt8} {r : List (List UInt8)} {t : Tk} (h : (lexO s).1 = [t]) : tkS (s :: r) = (tkS r).map (t :: ·) := by
  show (match (lexO s).1 with | [t] => (tkS r).map (t :: ·) | _ => none) = _
  rw [h]
theorem tkS_not {s : List UInt8} {r : List (List UInt8)} (h : (lexO s).1.length ≠ 1) : tkS (s :: r) = none := by
  show (match (lexO s).1 with | [t] => (tkS r).map (t :: ·) | _ => none) = _
  generalize (lexO s).1 = l at h
  match l, h with
  | [], _ => rfl
  | [_], h => exact absurd rfl h
  | _ :: _ :: _, _ => rfl
theorem drop_cons {α : Type} {l : List α} {i : Nat} {x : α} (h : l[i]? = some x) : l.drop i = x :: l.drop (i + 1) := by
  have hi := (List.getElem?_eq_some_iff.1 h).1
  rw [List.drop_eq_getElem_cons hi]
  congr 1
  exact (List.getElem?_eq_some_iff.1 h).2
theorem appT2 {ops : Array Oper} {rest : List Oper} {o : Oper} {a : Act} {Q : Exit → Act → World → Prop} {w : World} {B : Nat} {v : Value} {g : Nat} {ts : List Tk} {t : Tk}
    (hgd : o.guard = none) (s x : Operand) (ho : o.op = .call { callee := .builtin .append, args := #[s, x], argTypes := #[45, 45] })
    (hs : a.eval s = v) (hown : Tr B w v ts) (hx : a.eval x = .slice (some ⟨g, 0, none⟩) 1 1) (hc : Bx w g (.int .i64 t.kind) (.string (St t.s)) (.int .i64 t.n) (.int .i64 t.at_)) (hn : ts.length ≤ 1000000000000) (hB : B ≤ w.heap.size)
    (h : ∀ v' w', Tr B w' v' (ts ++ [t]) → Below B w w' → wpList Tryz.prog ops Q rest (a.put o.dst v') w') : wpList Tryz.prog ops Q (o :: rest) a w := by
  obtain ⟨i0, hi, hz0, hz1, hz2⟩ := info_parts Tryz.info85
  obtain ⟨c0, c1, c2, c3⟩ := hc.cells
  refine wpList_append_own w hgd s x 45 ho B 85 i0 _ 4 40 Tryz.underlying45 hi hz0 hz1 hz2 rfl (by decide) v ts.length _ hs hown ⟨g, 0, none⟩ 1 1 (tkC t) hx rfl ?_ ?_ ?_ ?_ hB ?_
  · intro j u hj
    match j, hj with
    | 0, hj => simp [tkC] at hj; subst hj; simpa [Addr.add] using c0
    | 1, hj => simp [tkC] at hj; subst hj; simpa [Addr.add] using c1
    | 2, hj => simp [tkC] at hj; subst hj; simpa [Addr.add] using c2
    | 3, hj => simp [tkC] at hj; subst hj; simpa [Addr.add] using c3
    | n + 4, hj => simp [tkC] at hj
  · intro u hu; simp [tkC] at hu; rcases hu with rfl | rfl | rfl | rfl <;> rfl
  · unfold maxLen; omega
  · omega
  · intro v' w' h1 h2 _
    refine h v' w' ?_ ((Below.refl B w).grown h2 hB (fun k e => (hown.lt k e).1))
    unfold Tr
    rw [← tksC_snoc, List.length_append]
    exact h1
theorem Tr.sl4 {B : Nat} {w : World} {v : Value} {ts : List Tk} (h : Tr B w v ts) : SlAt (fun b => B ≤ b ∧ b < w.heap.size) tkC 4 w v ts := Own.sl (enc := tkC) (k := 4) (e := 85) h (fun _ => rfl)
section
variable {w : World} {v : Value} {ws : List (List UInt8)}
set_option maxRecDepth 100000 in
set_option maxHeartbeats 2000000 in
theorem ptokens_any (hv : SlAt (fun b => b < w.heap.size) str1 1 w v ws) (hl : ∀ s ∈ ws, (s.length : Int) ≤ 140737488355328) (hn : ws.length ≤ 1000000000000) (hG : Gd w) : Calls Tryz.prog 42 #[v] w fun e w' => ∃ u, e = .returned u ∧ Tr w.heap.size w' u (tokensS ws) ∧ Below w.heap.size w w' := by
  have HV := hid hv
  have HL := hid hl
  have HG := hid hG
  have HN := hid hn
  obtain ⟨p, c, rfl, hc1, hc2⟩ := hv.form
  unfold maxLen at hc2
  clear hv hl hG hn
  generalize hnn : ws.length = n at *
  have HNn := hid hnn
  clear hnn
  go_enter Tryz.func42, Tryz.ntmps42
  go_upto_region 3 with fail
  go_loopw [3, 11] (fun u x wr => ∃ (k : Nat) (acc : List Tk), k ≤ n ∧ x = .int .i64 k ∧ Hid (acc.length = k) ∧ Hid (tkS ws = (tkS (ws.drop k)).map (acc ++ ·)) ∧ Hid (Tr w.heap.size wr u acc) ∧ Hid (Below w.heap.size w wr)) (fun _ x _ => n - (intOf x).toNat)
  case atStart => exact ⟨0, [], by omega, rfl, rfl, by show _ = _; rw [List.drop_zero]; cases tkS ws <;> rfl, Tr.nil _ _, Below.refl _ _⟩
  case round =>
    obtain ⟨k, acc, hk, rfl, HAl, HT, HTr, HBr⟩ := hrel
    by_cases hlt : k < n
    · obtain ⟨s, hs⟩ : ∃ s, ws[k]? = some s := ⟨_, List.getElem?_eq_getElem (by have := HNn.out; omega)⟩
      obtain ⟨g, og, rfl, -, h1⟩ := (HV.out.bel HBr.out).at hs
      have e1 : wr.cell? ⟨g, og + k, none⟩ = some (.string (St s)) := by have := h1 0 _ rfl; simpa using this
      have kI : (k : Int) < n := by omega
      have k0 : (0 : Int) ≤ k := by omega
      have HLx := hid (lex_any s (HL.out s (List.mem_of_getElem? hs)) wr (HG.out.next HBr.out))
      have HD := hid (drop_cons hs)
      have HI := hid hlt
      clear h1 hs hlt
      by_cases h1 : (lexO s).1.length = 1
      · obtain ⟨t, ht⟩ : ∃ t, (lexO s).1 = [t] := by
          generalize (lexO s).1 = l at h1
          match l, h1 with
          | [t], _ => exact ⟨t, rfl⟩
        have HT2 : Hid (tkS ws = (tkS (ws.drop (k + 1))).map ((acc ++ [t]) ++ ·)) := by
          show _ = _
          rw [HT.out, HD.out, tkS_one ht]
          cases tkS (ws.drop (k + 1)) <;> simp
        have HTk := hid ht
        clear h1 ht
        obtain ⟨pu, cu, rfl, -, -⟩ := HTr.out.sl4.form
        go_wp2_with (first
          | (go_at_call 69; refine HLx.out.mono ?_; rintro e w2 ⟨v2, rfl, ht2, hb2⟩; rw [HTk.out] at ht2; obtain ⟨p2, c2, rfl, hc3, hc4⟩ := ht2.sl4.form; obtain ⟨g2, o2, rfl, -, h2⟩ := ht2.sl4.at (j := 0) rfl; have HB2 := hid (HBr.out.trans (hb2.mono HBr.out.size)); have HTr2 := hid (HTr.out.on hb2); have f0 : w2.cell? ⟨g2, o2, none⟩ = some (.int .i64 t.kind) := h2 0 _ rfl; have f1 : w2.cell? ⟨g2, o2 + 1, none⟩ = some (.string (St t.s)) := h2 1 _ rfl; have f2 : w2.cell? ⟨g2, o2 + 2, none⟩ = some (.int .i64 t.n) := h2 2 _ rfl; have f3 : w2.cell? ⟨g2, o2 + 3, none⟩ = some (.int .i64 t.at_) := h2 3 _ rfl; clear ht2 hb2 h2)
          | (at_builtin; refine appT2 (t := t) rfl _ _ rfl rfl (HTr2.out.alloc _) rfl (Bx.made _ _ _ _ _) (by have := HAl.out; have := HN.out; omega) (by have := HB2.out.size; simp; omega) ?_; intro v1 w1 ho1 hb1; have HTr1 := hid ho1; have HBB1 := hid ((HB2.out.alloc HB2.out.size _).trans hb1); clear ho1 hb1))
        go_roundw
        case rel => exact ⟨k + 1, acc ++ [t], by omega, by go_num, by show _ = _; rw [List.length_append, HAl.out]; rfl, HT2.out, HTr1.out, HBB1.out⟩
        case measure => simp [intOf]; have := HI.out; omega
      · have HT2 : Hid (tokensS ws = []) := by
          show _ = _
          unfold tokensS
          rw [HT.out, HD.out, tkS_not h1]; rfl
        have b1 : (((lexO s).1.length : Int) != 1) = true := by simp; omega
        clear h1
        go_wp2_with (first
          | (go_at_call 69; refine HLx.out.mono ?_; rintro e w2 ⟨v2, rfl, ht2, hb2⟩; obtain ⟨p2, c2, rfl, hc3, hc4⟩ := ht2.sl4.form; have HB2 := hid (HBr.out.trans (hb2.mono HBr.out.size)); clear ht2 hb2))
        go_ret
        exact ⟨_, rfl, by rw [HT2.out]; exact Tr.nil _ _, HB2.out⟩
    · have kI : ¬ (k : Int) < n := by omega
      have HE : Hid (tokensS ws = acc) := by
        show _ = _
        unfold tokensS
        rw [HT.out, List.drop_eq_nil_of_le (by have := HNn.out; omega)]; simp [tkS]
      go_wp2_with fail
      go_ret
      exact ⟨_, rfl, by rw [HE.out]; exact HTr.out, HBr.out⟩
end
end Go.Proofs.YtmpjmimhoikknaaGreatDoor
namespace Go.Proofs.YtmpjmimhoikknaaGreatDoor

def vtN (n : Np) : List UInt8 := if VN.validB n.vk n.vn (St n.vs) 0 0 0 0 0 0 0 0 then VN.textV n.vk n.vn (St n.vs) 0 0 0 0 0 0 0 0 else []
def xN (n : Np) : Xn := (n, vtN n)
/- A node whose row of nodes stands k further behind. -/
def shN (k : Nat) (n : Np) : Np := { n with l := n.l.map (· + (k : Int)) }
def sh (k : Nat) (l : List Np) : List Np := l.map (shN k)
theorem shN_zero (n : Np) : shN 0 n = n := by
  obtain ⟨a, b, c, d, e, f, g, h, l, i, j⟩ := n
  simp [shN]
theorem shN_shN (a b : Nat) (n : Np) : shN a (shN b n) = shN (a + b) n := by
  obtain ⟨_, _, _, _, _, _, _, _, l, _, _⟩ := n
  simp [shN, Function.comp_def]
  intro x _
  omega
theorem sh_zero (l : List Np) : sh 0 l = l := by
  unfold sh
  rw [List.map_congr_left (g := id) (fun n _ => shN_zero n), List.map_id]
theorem sh_sh (a b : Nat) (l : List Np) : sh a (sh b l) = sh (a + b) l := by
  unfold sh
  rw [List.map_map]
  exact List.map_congr_left (fun n _ => shN_shN a b n)
theorem sh_app (k : Nat) (a b : List Np) : sh k (a ++ b) = sh k a ++ sh k b := by simp [sh]
theorem sh_len (k : Nat) (a : List Np) : (sh k a).length = a.length := by simp [sh]
theorem vtN_sh (k : Nat) (n : Np) : vtN (shN k n) = vtN n := rfl
theorem lAt_sh {k c : Nat} {n : Np} (hc : c < n.l.length) (h0 : ∀ e ∈ n.l, 0 ≤ e) : lAt (shN k n) c = k + lAt n c := by
  unfold lAt shN
  simp only [List.getD_eq_getElem?_getD, List.getElem?_map, List.getElem?_eq_getElem hc, Option.map_some, Option.getD_some]
  have := h0 _ (List.getElem_mem hc)
  omega
theorem lAt_lt {c i : Nat} {n : Np} (hc : c < n.l.length) (h0 : ∀ e ∈ n.l, 0 ≤ e ∧ e < (i : Int)) : lAt n c < i := by
  unfold lAt
  simp only [List.getD_eq_getElem?_getD, List.getElem?_eq_getElem hc, Option.getD_some]
  have := h0 _ (List.getElem_mem hc)
  omega
theorem nodeX_congr {xs ys : List Xn} {p p' : Nat → List (List UInt8)} {k : Nat} {n : Np} {vt : List UInt8} (hl : (n.l.length : Int) = belowN n.kind)
    (h : ∀ c, c < n.l.length → p (lAt (shN k n) c) = p' (lAt n c) ∧ kindAt xs (lAt (shN k n) c) = kindAt ys (lAt n c)) : nodeX xs p (shN k n) vt = nodeX ys p' n vt := by
  have hk : (shN k n).kind = n.kind := rfl
  have e2 : (n.kind = 2 ∨ n.kind = 7 ∨ n.kind = 8 ∨ n.kind = 11 ∨ n.kind = 12) → n.l.length = 2 := fun hh => by
    rcases hh with hh | hh | hh | hh | hh <;> (rw [hh] at hl; simp [belowN] at hl; omega)
  have e1 : (n.kind = 3 ∨ n.kind = 4 ∨ n.kind = 5 ∨ n.kind = 6 ∨ n.kind = 13) → n.l.length = 1 := fun hh => by
    rcases hh with hh | hh | hh | hh | hh <;> (rw [hh] at hl; simp [belowN] at hl; omega)
  have f1 : (shN k n).names = n.names := rfl
  have f2 : (shN k n).aggs = n.aggs := rfl
  have f3 : (shN k n).n = n.n := rfl
  have f4 : (shN k n).s = n.s := rfl
  have f5 : (shN k n).vs = n.vs := rfl
  have f6 : fetchW (shN k n) = fetchW n := rfl
  rcases below_kinds hl with hq | hq | hq | hq | hq | hq | hq | hq | hq | hq | hq | hq | hq
  · simp [nodeX, hk, hq, f6]
  · have hn := e2 (by omega)
    simp [nodeX, stepX, tailX, isCnd, hk, hq, (h 0 (by omega)).1, (h 1 (by omega)).1]
  · have hn := e1 (by omega)
    simp [nodeX, stepX, tailX, isCnd, hk, hq, (h 0 (by omega)).1, f1]
  · have hn := e1 (by omega)
    simp [nodeX, stepX, tailX, isCnd, hk, hq, (h 0 (by omega)).1, f3]
  · have hn := e1 (by omega)
    simp [nodeX, stepX, tailX, isCnd, hk, hq, (h 0 (by omega)).1, f1, f2]
  · have hn := e1 (by omega)
    simp [nodeX, stepX, tailX, isCnd, hk, hq, (h 0 (by omega)).1, f3, f4]
  · have hn := e2 (by omega)
    simp [nodeX, stepX, tailX, isCnd, hk, hq, (h 0 (by omega)).1, (h 1 (by omega)).1]
  · have hn := e2 (by omega)
    simp [nodeX, stepX, tailX, isCnd, hk, hq, (h 0 (by omega)).1, (h 1 (by omega)).1]
  · have hn := e2 (by omega)
    simp [nodeX, condX, bdW, isCnd, hk, hq, (h 0 (by omega)).1, (h 1 (by omega)).1, (h 0 (by omega)).2, (h 1 (by omega)).2]
  · have hn := e2 (by omega)
    simp [nodeX, condX, bdW, isCnd, hk, hq, (h 0 (by omega)).1, (h 1 (by omega)).1, (h 0 (by omega)).2, (h 1 (by omega)).2]
  · have hn := e1 (by omega)
    simp [nodeX, condX, bdW, isCnd, hk, hq, (h 0 (by omega)).1, (h 0 (by omega)).2]
  · simp [nodeX, condX, isCnd, hk, hq, f3, f4]
  · simp [nodeX, condX, isCnd, hk, hq, f4, f5]
/- ys stands in xs from k on, its numbers k further. -/
def Emb (k : Nat) (ys xs : List Xn) : Prop := ∀ (j : Nat) (y : Xn), ys[j]? = some y → xs[k + j]? = some (shN k y.1, y.2)
theorem Emb.kind {k : Nat} {ys xs : List Xn} (h : Emb k ys xs) {j : Nat} (hj : j < ys.length) : kindAt xs (k + j) = kindAt ys j := by
  unfold kindAt
  rw [h j _ (List.getElem?_eq_getElem hj), List.getElem?_eq_getElem hj]; rfl
theorem wd_emb {k : Nat} {ys xs : List Xn} (h : Emb k ys xs) (hA : Ahd ys) : ∀ (d j d' : Nat), j < d → j < ys.length → k + j < d' → wd xs d' (k + j) = wd ys d j
  | 0, _, _, hd, _, _ => absurd hd (Nat.not_lt_zero _)
  | d + 1, j, 0, _, _, hd' => absurd hd' (Nat.not_lt_zero _)
  | d + 1, j, d' + 1, hd, hj, hd' => by
    have hy := List.getElem?_eq_getElem hj
    obtain ⟨y, hy⟩ : ∃ y, ys[j]? = some y := ⟨_, hy⟩
    obtain ⟨hl, ha⟩ := hA j y hy
    rw [wd_some hy, wd_some (h j y hy)]
    refine nodeX_congr hl (fun c hc => ?_)
    have h1 := lAt_lt hc ha
    rw [lAt_sh hc (fun e he => (ha e he).1)]
    exact ⟨wd_emb h hA d _ d' (by omega) (by omega) (by omega), h.kind (by omega)⟩
/- A tree's nodes alone: their words, how tight the last one holds. -/
def AhN (new : List Np) : Prop := Ahd (new.map xN)
def wq (new : List Np) : List (List UInt8) := wd (new.map xN) new.length (new.length - 1)
def rk (new : List Np) : Int := kindAt (new.map xN) (new.length - 1)
def bdr (new : List Np) (least : Int) : List (List UInt8) := if bindsN (rk new) < least then inB (wq new) else wq new
theorem emb_seg (k : Nat) (pre new post : List Np) (hk : pre.length = k) : Emb k (new.map xN) ((pre ++ sh k new ++ post).map xN) := by
  intro j y hy
  rw [List.getElem?_map] at hy
  cases hn : new[j]? with
  | none => rw [hn] at hy; cases hy
  | some n =>
    rw [hn] at hy; cases hy
    have hj := (List.getElem?_eq_some_iff.1 hn).1
    rw [List.getElem?_map, List.getElem?_append_left (by rw [List.length_append, sh_len]; omega), List.getElem?_append_right (by omega), show k + j - pre.length = j by omega]
    unfold sh
    rw [List.getElem?_map, hn]; rfl
theorem wd_seg {k : Nat} {pre new post : List Np} (hk : pre.length = k) (hA : AhN new) (hne : 0 < new.length) {d : Nat} (hd : k + new.length ≤ d) : wd ((pre ++ sh k new ++ post).map xN) d (k + new.length - 1) = wq new ∧ kindAt ((pre ++ sh k new ++ post).map xN) (k + new.length - 1) = rk new := by
  have he := emb_seg k pre new post hk
  have e : k + new.length - 1 = k + (new.length - 1) := by omega
  rw [e]
  exact ⟨wd_emb he hA new.length (new.length - 1) d (by omega) (by rw [List.length_map]; omega) (by omega), he.kind (by rw [List.length_map]; omega)⟩
theorem bdW_seg {k : Nat} {pre new post : List Np} (hk : pre.length = k) (hA : AhN new) (hne : 0 < new.length) {d : Nat} (hd : k + new.length ≤ d) (least : Int) : bdW ((pre ++ sh k new ++ post).map xN) (wd ((pre ++ sh k new ++ post).map xN) d) (k + new.length - 1) least = bdr new least := by
  obtain ⟨h1, h2⟩ := wd_seg (post := post) hk hA hne hd
  unfold bdW bdr
  rw [h1, h2]
end Go.Proofs.YtmpjmimhoikknaaGreatDoor
namespace Go.Proofs.YtmpjmimhoikknaaGreatDoor

/- What is read at a depth is read so at the next one, too. -/
def Mo (p q : PN) : Prop := ∀ i ns r j, p i ns = .ok r j → q i ns = .ok r j
theorem chainL_mo {ts : List Tp} {x : List UInt8} {kind : Int} {p q : PN} (h : Mo p q) : ∀ F a i ns r j, chainL ts x kind p F a i ns = .ok r j → chainL ts x kind q F a i ns = .ok r j
  | 0, a, i, ns, r, j, e => e
  | F + 1, a, i, ns, r, j, e => by
    rw [chainL] at e ⊢
    split at e
    · rename_i hw
      rw [if_pos hw]
      obtain ⟨y, i1, h1, h2⟩ := and_ok e
      rw [h _ _ _ _ h1]
      exact chainL_mo h F _ _ _ _ _ h2
    · rename_i hw; rw [if_neg hw]; exact e
theorem chain_mo {ts : List Tp} {x : List UInt8} {kind : Int} {p q : PN} (h : Mo p q) : Mo (chainS ts x kind p) (chainS ts x kind q) := by
  intro i ns r j e
  obtain ⟨y, i1, h1, h2⟩ := and_ok e
  unfold chainS
  rw [h _ _ _ _ h1]
  exact chainL_mo h _ _ _ _ _ _ h2
theorem condB_mo {ts : List Tp} {p q : PN} (h : Mo p q) : Mo (condB ts p) (condB ts q) := chain_mo (chain_mo h)
theorem inBr_mo {ts : List Tp} {o o' : Option PN} (ho : ∀ p, o = some p → ∃ q, o' = some q ∧ Mo p q) : Mo (inBr ts o) (inBr ts o') := by
  intro i ns r j h
  unfold inBr at h ⊢
  split at h
  · rename_i hw; rw [if_pos hw]
    cases o with
    | none => cases h
    | some p =>
      obtain ⟨q, rfl, hq⟩ := ho p rfl
      obtain ⟨y, i1, h1, h2⟩ := and_ok h
      show (q (i + 1) ns).and _ = _
      rw [hq _ _ _ _ h1]; exact h2
  · cases h
theorem notB_mo {ts : List Tp} {o o' : Option PN} (ho : ∀ p, o = some p → ∃ q, o' = some q ∧ Mo p q) : Mo (notB ts o) (notB ts o') := by
  intro i ns r j h
  unfold notB at h ⊢
  split at h
  · rename_i hw; rw [if_pos hw]
    cases o with
    | none => cases h
    | some p =>
      obtain ⟨q, rfl, hq⟩ := ho p rfl
      obtain ⟨y, i1, h1, h2⟩ := and_ok h
      show (q (i + 1) ns).and _ = _
      rw [hq _ _ _ _ h1]; exact h2
  · rename_i hw; rw [if_neg hw]
    split at h
    · rename_i hw2; rw [if_pos hw2]
      refine inBr_mo ?_ _ _ _ _ h
      intro c hc
      cases o with
      | none => cases hc
      | some p =>
        cases hc
        obtain ⟨q, rfl, hq⟩ := ho p rfl
        exact ⟨_, rfl, condB_mo hq⟩
    · rename_i hw2; rw [if_neg hw2]; exact h
theorem not_mo (ts : List Tp) : ∀ d, Mo (notS ts d) (notS ts (d + 1))
  | 0 => notB_mo (fun p h => by cases h)
  | d + 1 => notB_mo (fun p h => by cases h; exact ⟨_, rfl, not_mo ts d⟩)
theorem cond_mo (ts : List Tp) (d : Nat) : Mo (condS ts d) (condS ts (d + 1)) := condB_mo (not_mo ts d)

/- Y has, one place on from m, what X has from there, and then a closing bracket. -/
structure Rl (m : Nat) (X Y : List Tp) : Prop where
  len : Y.length = X.length + 2
  at_ : ∀ i, m ≤ i → i < X.length → ∃ t u, X[i]? = some t ∧ Y[i + 1]? = some u ∧ t.kind = u.kind ∧ t.s = u.s ∧ t.n = u.n
  last : ∃ u, Y[X.length + 1]? = some u ∧ u.kind = 4 ∧ u.s = wShut
section
variable {m : Nat} {X Y : List Tp}
theorem Rl.W (h : Rl m X Y) {i : Nat} (h1 : m ≤ i) (h2 : i < X.length) (x : List UInt8) : isW Y (i + 1) x = isW X i x := by
  obtain ⟨t, u, e1, e2, e3, e4, e5⟩ := h.at_ i h1 h2
  unfold isW; rw [e1, e2]; simp only [e3, e4]
theorem Rl.W' (h : Rl m X Y) {i : Nat} (h1 : m ≤ i) (h2 : i ≤ X.length) {x : List UInt8} (hx : ¬ x = wShut) : isW Y (i + 1) x = isW X i x := by
  rcases Nat.lt_or_ge i X.length with h3 | h3
  · exact h.W h1 h3 x
  · obtain rfl : i = X.length := by omega
    obtain ⟨u, e1, e2, e3⟩ := h.last
    have e4 : isW X X.length x = false := by unfold isW; rw [List.getElem?_eq_none (by omega)]
    rw [e4]; unfold isW; rw [e1]; simp only [e3]
    simp
    intro _ e; exact hx e.symm
theorem Rl.K (h : Rl m X Y) {i : Nat} (h1 : m ≤ i) (h2 : i ≤ X.length) {k : Int} (hk : ¬ k = 4) : isK Y (i + 1) k = isK X i k := by
  rcases Nat.lt_or_ge i X.length with h3 | h3
  · obtain ⟨t, u, e1, e2, e3, e4, e5⟩ := h.at_ i h1 h3
    unfold isK; rw [e1, e2]; simp only [e3]
  · obtain rfl : i = X.length := by omega
    obtain ⟨u, e1, e2, e3⟩ := h.last
    have e4 : isK X X.length k = false := by unfold isK; rw [List.getElem?_eq_none (by omega)]
    rw [e4]; unfold isK; rw [e1]; simp only [e2]
    simp; omega
def R1 (m : Nat) (X : List Tp) {α : Type} (f g : Nat → Rs α) : Prop := ∀ i x j, m ≤ i → i ≤ X.length → f i = .ok x j → g (i + 1) = .ok x (j + 1)
theorem take_r (h : Rl m X Y) {k : Int} (hk : ¬ k = 4) {i : Nat} {t : Tp} {j : Nat} (h1 : m ≤ i) (h2 : i ≤ X.length) (e : takeS X k i = .ok t j) : ∃ u, takeS Y k (i + 1) = .ok u (j + 1) ∧ u.s = t.s ∧ u.n = t.n := by
  unfold takeS at e ⊢
  rw [h.K h1 h2 hk]
  split at e
  · rename_i hh
    rw [if_pos hh]
    cases e
    obtain ⟨t, u, e1, e2, e3, e4, e5⟩ := h.at_ i h1 (isK_lt hh)
    refine ⟨_, rfl, ?_, ?_⟩ <;> unfold hereS <;> rw [e1, e2] <;> simp [e4, e5]
  · cases e
theorem name_r (h : Rl m X Y) : R1 m X (nameS X) (nameS Y) := by
  intro i x j h1 h2 e
  obtain ⟨t, i1, e1, e2⟩ := and_ok e
  obtain ⟨u, e3, e4, e5⟩ := take_r h (by decide) h1 h2 e1
  unfold nameS; rw [e3]; cases e2; simp [Rs.and, e4]
theorem num_r (h : Rl m X Y) : R1 m X (numS' X) (numS' Y) := by
  intro i x j h1 h2 e
  obtain ⟨t, i1, e1, e2⟩ := and_ok e
  obtain ⟨u, e3, e4, e5⟩ := take_r h (by decide) h1 h2 e1
  unfold numS'; rw [e3]; cases e2; simp [Rs.and, e5]
theorem text_r (h : Rl m X Y) : R1 m X (textV X) (textV Y) := by
  intro i x j h1 h2 e
  obtain ⟨t, i1, e1, e2⟩ := and_ok e
  obtain ⟨u, e3, e4, e5⟩ := take_r h (by decide) h1 h2 e1
  unfold textV; rw [e3]; cases e2; simp [Rs.and, e4]
theorem idx_r (h : Rl m X Y) {i : Nat} (h1 : m ≤ i) (h2 : i ≤ X.length) : ∀ (ws : List (List UInt8)) (k : Nat), ¬ wShut ∈ ws → idxOf Y (i + 1) ws k = idxOf X i ws k
  | [], _, _ => rfl
  | x :: r, k, hn => by
    unfold idxOf
    rw [h.W' h1 h2 (fun e => hn (by rw [e]; exact List.mem_cons_self)), idx_r h h1 h2 r (k + 1) (fun e => hn (List.mem_cons_of_mem _ e))]
theorem oneOf_r (h : Rl m X Y) {ws : List (List UInt8)} (hw : ¬ wShut ∈ ws) : R1 m X (oneOfS X ws) (oneOfS Y ws) := by
  intro i x j h1 h2 e
  unfold oneOfS at e ⊢
  rw [idx_r h h1 h2 ws 0 hw]
  split at e
  · cases e; rfl
  · cases e
theorem value_r (h : Rl m X Y) : R1 m X (valueS X) (valueS Y) := by
  intro i x j h1 h2 e
  unfold valueS at e ⊢
  rw [h.K h1 h2 (by decide), h.K h1 h2 (by decide)]
  split at e
  · rename_i hk; rw [if_pos hk]
    obtain ⟨y, i2, h3, h4⟩ := and_ok e
    rw [num_r h _ _ _ h1 h2 h3]; cases h4; rfl
  · rename_i hk; rw [if_neg hk]
    split at e
    · rename_i hk2; rw [if_pos hk2]; exact text_r h _ _ _ h1 h2 e
    · rename_i hk2; rw [if_neg hk2]
      obtain ⟨y, i2, h3, h4⟩ := and_ok e
      rw [oneOf_r h (by decide) _ _ _ h1 h2 h3]; cases h4; rfl
theorem test_r (h : Rl m X Y) : R1 m X (testS X) (testS Y) := by
  intro i x j h1 h2 e
  obtain ⟨k, i1, e1, e2⟩ := and_ok e
  have g1 := name_go X _ _ _ e1
  unfold testS
  rw [name_r h _ _ _ h1 h2 e1]
  show (if _ then _ else _) = _
  rw [h.W' (by omega) g1.2 (by decide)]
  split at e2
  · rename_i hw; rw [if_pos hw]
    obtain ⟨y, i2, h3, h4⟩ := and_ok e2
    have := isW_lt hw
    rw [text_r h _ _ _ (by omega) (by omega) h3]; cases h4; rfl
  · rename_i hw; rw [if_neg hw]
    obtain ⟨y, i2, h3, h4⟩ := and_ok e2
    obtain ⟨z, i3, h5, h6⟩ := and_ok h4
    have g2 := oneOf_go X _ _ _ _ h3
    rw [oneOf_r h (by decide) _ _ _ (by omega) g1.2 h3]
    show (valueS Y (i2 + 1)).and _ = _
    rw [value_r h _ _ _ (by omega) g2.2 h5]; cases h6; rfl
def RN (m : Nat) (X : List Tp) (p q : PN) : Prop := ∀ i ns r j, m ≤ i → i ≤ X.length → p i ns = .ok r j → q (i + 1) ns = .ok r (j + 1)
theorem chainL_r (h : Rl m X Y) {x : List UInt8} (hx : ¬ x = wShut) {kind : Int} {p q : PN} (hp : RN m X p q) (hg : GoN X p) : ∀ F F' a i ns r j, m ≤ i → i ≤ X.length → X.length ≤ F + i → X.length < F' + i → chainL X x kind p F a i ns = .ok r j → chainL Y x kind q F' a (i + 1) ns = .ok r (j + 1)
  | 0, F', a, i, ns, r, j, hm, hi, h1, h2, e => by
    simp [chainL] at e
    obtain ⟨rfl, rfl⟩ := e
    obtain ⟨F'', rfl⟩ : ∃ n, F' = n + 1 := ⟨F' - 1, by omega⟩
    have e : isW X i x = false := by unfold isW; rw [List.getElem?_eq_none (by omega)]
    rw [chainL, h.W' hm hi hx, e]; rfl
  | F + 1, F', a, i, ns, r, j, hm, hi, h1, h2, e => by
    obtain ⟨F'', rfl⟩ : ∃ n, F' = n + 1 := ⟨F' - 1, by omega⟩
    rw [chainL] at e ⊢
    rw [h.W' hm hi hx]
    split at e
    · rename_i hw
      rw [if_pos hw]
      have hlt := isW_lt hw
      obtain ⟨y, i1, h3, h4⟩ := and_ok e
      rw [hp _ _ _ _ (by omega) (by omega) h3]
      have g1 := hg _ _ _ _ h3
      exact chainL_r h hx hp hg F F'' _ _ _ _ _ (by omega) g1.2.1 (by omega) (by omega) h4
    · rename_i hw; rw [if_neg hw]; cases e; rfl
theorem chain_r (h : Rl m X Y) {x : List UInt8} (hx : ¬ x = wShut) {kind : Int} {p q : PN} (hp : RN m X p q) (hg : GoN X p) : RN m X (chainS X x kind p) (chainS Y x kind q) := by
  intro i ns r j hm hi e
  obtain ⟨y, i1, h1, h2⟩ := and_ok e
  have g1 := hg _ _ _ _ h1
  have hl := h.len
  unfold chainS
  rw [hp _ _ _ _ hm hi h1]
  exact chainL_r h hx hp hg _ _ _ _ _ _ _ (by omega) g1.2.1 (by omega) (by omega) h2
theorem condB_r (h : Rl m X Y) {p q : PN} (hp : RN m X p q) (hg : GoN X p) : RN m X (condB X p) (condB Y q) := chain_r h (by decide) (chain_r h (by decide) hp hg) (both_go hg)
theorem inBr_r (h : Rl m X Y) {o o' : Option PN} (ho : ∀ p, o = some p → ∃ q, o' = some q ∧ RN m X p q ∧ GoN X p) : RN m X (inBr X o) (inBr Y o') := by
  intro i ns r j hm hi e
  unfold inBr at e ⊢
  rw [h.W' hm hi (by decide)]
  split at e
  · rename_i hw; rw [if_pos hw]
    have hlt := isW_lt hw
    cases o with
    | none => cases e
    | some p =>
      obtain ⟨q, rfl, hq, hg⟩ := ho p rfl
      obtain ⟨y, i1, h1, h2⟩ := and_ok e
      obtain ⟨_, i2, h3, h4⟩ := and_ok h2
      have g1 := hg _ _ _ _ h1
      have hl : i1 < X.length := by have := want_go X _ _ _ _ h3; omega
      show (q (i + 1 + 1) ns).and _ = _
      rw [hq _ _ _ _ (by omega) (by omega) h1]
      show (wantS Y wShut (i1 + 1)).and _ = _
      unfold wantS at h3 ⊢
      rw [h.W (by omega) hl]
      split at h3
      · rename_i hs; rw [if_pos hs]; cases h3; cases h4; rfl
      · cases h3
  · cases e
theorem notB_r (h : Rl m X Y) {o o' : Option PN} (ho : ∀ p, o = some p → ∃ q, o' = some q ∧ RN m X p q ∧ GoN X p) : RN m X (notB X o) (notB Y o') := by
  intro i ns r j hm hi e
  unfold notB at e ⊢
  rw [h.W' hm hi (by decide), h.W' hm hi (by decide)]
  split at e
  · rename_i hw; rw [if_pos hw]
    have hlt := isW_lt hw
    cases o with
    | none => cases e
    | some p =>
      obtain ⟨q, rfl, hq, -⟩ := ho p rfl
      obtain ⟨y, i1, h1, h2⟩ := and_ok e
      show (q (i + 1 + 1) ns).and _ = _
      rw [hq _ _ _ _ (by omega) (by omega) h1]; cases h2; rfl
  · rename_i hw; rw [if_neg hw]
    split at e
    · rename_i hw2; rw [if_pos hw2]
      refine inBr_r h ?_ _ _ _ _ hm hi e
      intro c hc
      cases o with
      | none => cases hc
      | some p =>
        cases hc
        obtain ⟨q, rfl, hq, hg⟩ := ho p rfl
        exact ⟨_, rfl, condB_r h hq hg, condB_go hg⟩
    · rename_i hw2; rw [if_neg hw2]
      obtain ⟨y, i1, h1, h2⟩ := and_ok e
      rw [test_r h _ _ _ hm hi h1]; cases h2; rfl
theorem not_r (h : Rl m X Y) : ∀ d, RN m X (notS X d) (notS Y d)
  | 0 => notB_r h (fun p h => by cases h)
  | d + 1 => notB_r h (fun p hh => by cases hh; exact ⟨_, rfl, not_r h d, not_go X d⟩)
theorem cond_r (h : Rl m X Y) (d : Nat) : RN m X (condS X d) (condS Y d) := condB_r h (not_r h d) (not_go X d)
end

/- fetch x | where, and then. -/
abbrev hd4 (a0 a1 a2 a3 : Int) : List Tp := [⟨1, [102, 101, 116, 99, 104], 0, a0⟩, ⟨1, [120], 0, a1⟩, ⟨4, [124], 0, a2⟩, ⟨1, [119, 104, 101, 114, 101], 0, a3⟩]
def fxN : Np := { n0 with kind := 1, s := [120], to_ := 1099511627775 }
def whN (r : Nat) : Np := { n0 with kind := 2, l := [(0 : Int), (r : Int)] }
theorem br_q (a0 a1 a2 a3 : Int) (M X : List Tp) (hX : X = hd4 a0 a1 a2 a3 ++ M) : queryS X 16 0 [] = (condS X 16 4 [fxN]).and fun r j => stepsL X (stepB X (condS X 16) (some (queryS X 15))) (M.length + 3) r.2.length j (r.2 ++ [whN r.1]) := by
  subst hX
  show queryB _ _ _ 0 [] = _
  unfold queryB
  have e1 : fetchS (hd4 a0 a1 a2 a3 ++ M) 0 = .ok fxN 2 := rfl
  rw [e1]
  show stepsL _ _ (hd4 a0 a1 a2 a3 ++ M).length 0 2 [fxN] = _
  have e2 : (hd4 a0 a1 a2 a3 ++ M).length = M.length + 3 + 1 := by simp
  have e3 : isW (hd4 a0 a1 a2 a3 ++ M) 2 wBar = true := rfl
  have e4 : oneOfS (hd4 a0 a1 a2 a3 ++ M) stepW 3 = .ok 0 4 := rfl
  rw [e2, stepsL, e3, if_pos rfl]
  show (stepB _ _ _ 0 3 [fxN]).and _ = _
  unfold stepB
  rw [e4]
  simp only [Rs.and]
  generalize condS (hd4 a0 a1 a2 a3 ++ M) 16 4 [fxN] = c
  cases c <;> rfl
theorem none_W {ts : List Tp} {i : Nat} (h : ts.length ≤ i) (x : List UInt8) : isW ts i x = false := by unfold isW; rw [List.getElem?_eq_none h]
theorem steps_stop {ts : List Tp} {s : Nat → Nat → List Np → Rs (Np × List Np)} {F a i : Nat} {ns : List Np} (h : isW ts i wBar = false) : stepsL ts s F a i ns = .ok (a, ns) i := by
  cases F with
  | zero => rfl
  | succ F => rw [stepsL, h]; rfl
theorem chain_stop {ts : List Tp} {x : List UInt8} {kind : Int} {p : PN} {F a i : Nat} {ns : List Np} (h : isW ts i x = false) : chainL ts x kind p F a i ns = .ok (a, ns) i := by
  cases F with
  | zero => rfl
  | succ F => rw [chainL, h]; rfl
/- A whole that is read without an error. -/
theorem whole_ok {ts : List Tp} {p : PN} (hb : ∀ i c, p 0 [] = .bad i c → c ≠ 0) (h : (wholeS ts p).2.2 = 0) : ∃ r j, p 0 [] = .ok r j ∧ ts.length ≤ j ∧ (wholeS ts p).1 = r.2 := by
  unfold wholeS at h ⊢
  split at h
  · simp at h
  · rename_i hl
    rw [if_neg hl]
    cases hq : p 0 [] with
    | bad i c => rw [hq] at h; exact absurd h (hb i c hq)
    | ok r j =>
      rw [hq] at h
      simp only at h ⊢
      split at h
      · simp at h
      · rename_i h1
        rw [if_neg h1]
        split at h
        · simp at h
        · rename_i h2; rw [if_neg h2]; exact ⟨r, j, rfl, by omega, rfl⟩
theorem isW_s {ts : List Tp} {i : Nat} {x y : List UInt8} (h : isW ts i x = true) (hn : ¬ x = y) : isW ts i y = false := by
  unfold isW at h ⊢
  cases e : ts[i]? with
  | none => rfl
  | some t =>
    rw [e] at h
    simp only [decide_eq_true_eq, decide_eq_false_iff_not] at h ⊢
    rintro ⟨-, h2⟩; exact hn (h.2.symm.trans h2)
/- Both are the same. -/
theorem br_same {a0 a1 a2 a3 b0 b1 b2 b3 b4 : Int} {M N X Y : List Tp} (hX : X = hd4 a0 a1 a2 a3 ++ M) (hY : Y = hd4 b0 b1 b2 b3 ++ ⟨4, [40], 0, b4⟩ :: N) (hR : Rl 4 X Y)
    (bX : ∀ i c, queryS X 16 0 [] = .bad i c → c ≠ 0) (bY : ∀ i c, queryS Y 16 0 [] = .bad i c → c ≠ 0) (h1 : (parseS X).2.2 = 0) (h2 : (parseS Y).2.2 = 0) : (parseS X).1 = (parseS Y).1 := by
  obtain ⟨rX, jX, e1, l1, f1⟩ := whole_ok bX h1
  obtain ⟨rY, jY, e2, l2, f2⟩ := whole_ok bY h2
  unfold parseS
  rw [f1, f2]
  clear f1 f2 h1 h2 bX bY
  rw [br_q a0 a1 a2 a3 M X hX] at e1
  rw [br_q b0 b1 b2 b3 _ Y hY] at e2
  obtain ⟨cX, kX, e3, e4⟩ := and_ok e1
  obtain ⟨cY, kY, e5, e6⟩ := and_ok e2
  have hlX : 4 ≤ X.length := by rw [hX]; simp
  have gX := cond_go X 16 _ _ _ _ e3
  have s1 := cond_r hR 16 _ _ _ _ (Nat.le_refl _) hlX e3
  -- the bracket
  have o1 : isW Y 4 wNot = false := by rw [hY]; rfl
  have o2 : isW Y 4 wOpen = true := by rw [hY]; rfl
  obtain ⟨y1, i1, e7, e8⟩ := and_ok e5
  obtain ⟨y2, i2, e9, e10⟩ := and_ok e7
  have e11 : notB Y (some (notS Y 15)) 4 [fxN] = .ok y2 i2 := e9
  unfold notB at e11
  rw [o1, o2] at e11
  simp only [Bool.false_eq_true, if_false, if_true, Option.map_some] at e11
  unfold inBr at e11
  rw [o2] at e11
  simp only [if_true] at e11
  obtain ⟨y3, i3, e12, e13⟩ := and_ok e11
  obtain ⟨_, i4, e14, e15⟩ := and_ok e13
  have s2 := cond_mo Y 15 _ _ _ _ e12
  rw [s1] at s2
  cases s2
  cases e15
  unfold wantS at e14
  split at e14
  · rename_i hs
    cases e14
    have ek : kX = X.length := by
      rcases Nat.lt_or_ge kX X.length with h | h
      · rw [hR.W (by omega) h] at hs
        rw [steps_stop (isW_s hs (by decide))] at e4
        cases e4; omega
      · omega
    subst ek
    have hl := hR.len
    rw [chain_stop (none_W (by omega) _)] at e10
    cases e10
    rw [chain_stop (none_W (by omega) _)] at e8
    cases e8
    rw [steps_stop (none_W (by omega) _)] at e4 e6
    cases e4; cases e6; rfl
  · cases e14
end Go.Proofs.YtmpjmimhoikknaaGreatDoor
namespace Go.Proofs.YtmpjmimhoikknaaGreatDoor
open Go.RowKit Go.Joins Go.Sort
def In64 (n : Int) : Prop := -9223372036854775808 ≤ n ∧ n ≤ 9223372036854775807
theorem dig_toNat {d : Nat} (h : d < 10) : (UInt8.ofNat (48 + d)).toNat = 48 + d := by
  rw [UInt8.toNat_ofNat']; omega
theorem data_inj {s t : ByteArray} (h : s.data.toList = t.data.toList) : s = t := by
  apply bytes_toList_inj
  rw [ByteArray.toList_eq, ByteArray.toList_eq]; exact h
theorem conv_one (W : World) (z : Int) (c : UInt8) (h : z = (c.toNat : Int)) : (convert 105 9 (.slice (some ⟨W.heap.size, 0, none⟩) 1 1)).run Tryz.prog (W.alloc (.cells #[.int .u8 z] 5)) = .ok (.string ⟨#[c]⟩) (W.alloc (.cells #[.int .u8 z] 5)) := by
  refine run_convert_bytes_back (W.alloc (.cells #[.int .u8 z] 5)) 105 9 5 ⟨W.heap.size, 0, none⟩ 1 [c] Tryz.underlying105 Tryz.underlying5 Tryz.underlying9 ?_
  intro j hj
  have h0 : j = 0 := by simp at hj; omega
  subst h0
  rw [h]
  exact alloc_cell W _ 5
theorem join_one (c : UInt8) (l : List UInt8) : (⟨#[c]⟩ : ByteArray) ++ ⟨l.toArray⟩ = ⟨(c :: l).toArray⟩ := by
  apply data_inj
  simp [ByteArray.data_append]
def digC (d : Nat) : UInt8 := UInt8.ofNat (48 + d)
theorem digC_toNat {d : Nat} (h : d < 10) : (digC d).toNat = 48 + d := dig_toNat h
theorem dec_step {u : Nat} (h : ¬ u < 10) : Lib.decDigits u = Lib.decDigits (u / 10) ++ [digC (u % 10)] := by
  rw [Lib.decDigits, dif_neg h]; rfl
theorem dec_len {n : Int} (h : In64 n) : (Lib.decDigits n.natAbs).length ≤ 21 := by
  have h1 := Lib.itoa_length_le n h.1 h.2
  unfold Lib.itoa at h1
  split at h1
  · simp at h1; omega
  · have : n.toNat = n.natAbs := by omega
    rwa [this] at h1
set_option maxHeartbeats 400000 in
set_option maxRecDepth 100000 in
theorem digits_any {n : Int} {w : World} (hn : In64 n) :
    Calls Tryz.prog 59 #[.int .i64 n] w fun e w' => e = .returned (.string ⟨(Lib.itoa n).toArray⟩) ∧ Below w.heap.size w w' := by
  have HLen := hid (dec_len hn)
  obtain ⟨hn1, hn2⟩ := hn
  go_enter Tryz.func59, Tryz.ntmps59
  go_wp2
  go_loopw [3, 4] (fun v i wr => ∃ (low : Int) (suf : List UInt8), -9223372036854775808 ≤ low ∧ low ≤ 9223372036854775807 ∧ (n < 0 → low ≤ 0) ∧ (0 ≤ n → 0 ≤ low) ∧ i = .int .i64 low ∧ v = .string ⟨suf.toArray⟩ ∧ Hid (Lib.decDigits n.natAbs = Lib.decDigits low.natAbs ++ suf) ∧ Hid (Below w.heap.size w wr))
    (fun _ i _ => (intOf i).natAbs)
  case atStart => exact ⟨n, [], hn1, hn2, fun h => by omega, fun h => h, rfl, rfl, by show _ = _; simp, Below.refl _ _⟩
  case round =>
    obtain ⟨low, suf, hl1, hl2, hs1, hs2, rfl, rfl, HD, HB⟩ := hrel
    have HS1 := hid hs1
    have HS2 := hid hs2
    clear hs1 hs2
    have hsl : suf.length ≤ 21 := by
      have h := HLen.out; rw [HD.out, List.length_append] at h; omega
    by_cases hp : 9 < low
    · have hcv := conv_one wr (48 + low % 10) (digC (low.natAbs % 10)) (by rw [digC_toNat (by omega)]; omega)
      go_wp2
      go_roundw
      case rel =>
        refine ⟨low / 10, digC (low.natAbs % 10) :: suf, by omega, by omega, ?_, ?_, rfl, ?_, ?_, HB.out.alloc HB.out.size _⟩
        · intro h; have := HS1.out h; omega
        · intro h; omega
        · rw [join_one]
        · show _ = _
          rw [HD.out, dec_step (u := low.natAbs) (by omega), show (low / 10).natAbs = low.natAbs / 10 by omega]; simp
      case measure => simp [intOf]; omega
    · by_cases hq : low < -9
      · obtain ⟨t, ht⟩ : ∃ t, low.tmod 10 = t := ⟨_, rfl⟩
        obtain ⟨q, hqq⟩ : ∃ q, low.tdiv 10 = q := ⟨_, rfl⟩
        have ht0 : t = -((low.natAbs % 10 : Nat) : Int) := by
          rw [← ht]; have := Int.tmod_eq_emod_of_nonneg (a := -low) (b := 10) (by omega)
          have h2 := Int.neg_tmod low 10
          omega
        have hq0 : q = -((low.natAbs / 10 : Nat) : Int) := by
          rw [← hqq]
          have h2 := Int.neg_tdiv low 10
          have := Int.tdiv_eq_ediv_of_nonneg (a := -low) (b := 10) (by omega)
          omega
        have HT0 := hid ht0
        have HQ0 := hid hq0
        have ht1 : -9 ≤ t := by omega
        have ht2 : t ≤ 0 := by omega
        have hq1 : -9223372036854775808 ≤ q := by omega
        have hq2 : q ≤ 0 := by omega
        have hq3 : q.natAbs < low.natAbs := by omega
        clear ht0 hq0
        by_cases h0 : t < 0
        · have hcv := conv_one wr (48 + -t) (digC (low.natAbs % 10)) (by rw [digC_toNat (by omega)]; have := HT0.out; omega)
          go_wp2
          go_roundw
          case rel =>
            refine ⟨q, digC (low.natAbs % 10) :: suf, hq1, by omega, fun _ => hq2, ?_, rfl, ?_, ?_, HB.out.alloc HB.out.size _⟩
            · intro h; have := HS2.out h; omega
            · rw [join_one]
            · show _ = _
              have hn3 : q.natAbs = low.natAbs / 10 := by have := HQ0.out; omega
              rw [HD.out, dec_step (u := low.natAbs) (by omega), hn3]; simp
          case measure => simp [intOf]; omega
        · have hcv := conv_one wr (48 + t) (digC (low.natAbs % 10)) (by rw [digC_toNat (by omega)]; have := HT0.out; omega)
          go_wp2
          go_roundw
          case rel =>
            refine ⟨q, digC (low.natAbs % 10) :: suf, hq1, by omega, fun _ => hq2, ?_, rfl, ?_, ?_, HB.out.alloc HB.out.size _⟩
            · intro h; have := HS2.out h; omega
            · rw [join_one]
            · show _ = _
              have hn3 : q.natAbs = low.natAbs / 10 := by have := HQ0.out; omega
              rw [HD.out, dec_step (u := low.natAbs) (by omega), hn3]; simp
          case measure => simp [intOf]; omega
      · have HD2 := hid (show Lib.decDigits n.natAbs = digC low.natAbs :: suf by
          rw [HD.out, Lib.decDigits, dif_pos (by omega)]; rfl)
        by_cases hz : low < 0
        · have hneg : n < 0 := by
            apply Classical.byContradiction
            intro h; have := HS2.out (by omega); omega
          have hcv := conv_one wr (48 + -low) (digC low.natAbs) (by rw [digC_toNat (by omega)]; omega)
          have HI := hid (show Lib.itoa n = 45 :: digC low.natAbs :: suf by unfold Lib.itoa; rw [if_pos hneg, HD2.out])
          go_wp2
          go_ret
          refine ⟨?_, HB.out.alloc HB.out.size _⟩
          rw [HI.out, join_one, join_one]; rfl
        · have hcv := conv_one wr (48 + low) (digC low.natAbs) (by rw [digC_toNat (by omega)]; omega)
          by_cases hneg : n < 0
          · have HI := hid (show Lib.itoa n = 45 :: digC low.natAbs :: suf by unfold Lib.itoa; rw [if_pos hneg, HD2.out])
            go_wp2
            go_ret
            refine ⟨?_, HB.out.alloc HB.out.size _⟩
            rw [HI.out, join_one, join_one]; rfl
          · have HI := hid (show Lib.itoa n = digC low.natAbs :: suf by
              unfold Lib.itoa; rw [if_neg hneg, show n.toNat = n.natAbs by omega, HD2.out])
            go_wp2
            go_ret
            refine ⟨?_, HB.out.alloc HB.out.size _⟩
            rw [HI.out, join_one]; rfl
end Go.Proofs.YtmpjmimhoikknaaGreatDoor
