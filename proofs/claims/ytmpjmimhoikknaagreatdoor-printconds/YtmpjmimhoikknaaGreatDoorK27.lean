/-
  The words of queries are read as these queries.
-/
import Derived.Test.YtmpjmimhoikknaaGreatDoorK26
namespace Go.Proofs.YtmpjmimhoikknaaGreatDoor

def deepQ (ts : List Tp) : Nat → Option PN
  | 0 => none
  | e + 1 => some (queryS ts e)
def stepD (ts : List Tp) (d : Nat) : Nat → Nat → List Np → Rs (Np × List Np) := stepB ts (condS ts d) (deepQ ts d)
theorem queryS_eq (ts : List Tp) (d : Nat) : queryS ts d = queryB ts (condS ts d) (deepQ ts d) := by cases d <;> rfl
inductive RchQ (ts : List Tp) (S : Nat → Nat → List Np → Rs (Np × List Np)) (p : Nat) (ns : List Np) : Nat → Nat → Nat → List Np → Prop
  | first (n : Np) (q : Nat) (h : fetchS ts p = .ok n q) : RchQ ts S p ns ts.length ns.length q (ns ++ [n])
  | step (f a q : Nat) (ns' : List Np) (r : Np × List Np) (j : Nat) (h : RchQ ts S p ns (f + 1) a q ns') (hw : isW ts q wBar = true) (hr : S a (q + 1) ns' = .ok r j) (hj : q + 1 ≤ j) : RchQ ts S p ns f r.2.length j (r.2 ++ [r.1])
theorem RchQ.eq {ts : List Tp} {S : Nat → Nat → List Np → Rs (Np × List Np)} {p : Nat} {ns : List Np} {f a q : Nat} {ns' : List Np} (h : RchQ ts S p ns f a q ns') : ((fetchS ts p).and fun n j => stepsL ts S ts.length ns.length j (ns ++ [n])) = stepsL ts S f a q ns' := by
  induction h with
  | first n q h => rw [h]; rfl
  | step f a q ns' r j h hw hr hj ih =>
    rw [ih]
    conv => lhs; unfold stepsL
    rw [hw, if_pos rfl, hr]; rfl
theorem RchQ.fuel {ts : List Tp} {S : Nat → Nat → List Np → Rs (Np × List Np)} {p : Nat} {ns : List Np} {f a q : Nat} {ns' : List Np} (h : RchQ ts S p ns f a q ns') : ts.length ≤ f + q := by
  induction h with
  | first n q h => omega
  | step f a q ns' r j h hw hr hj ih => omega
theorem RchQ.stop {ts : List Tp} {d p : Nat} {ns : List Np} {f a q : Nat} {ns' : List Np} (h : RchQ ts (stepD ts d) p ns f a q ns') (hw : isW ts q wBar = false) : queryS ts d p ns = .ok (a, ns') q := by
  rw [queryS_eq]
  show ((fetchS ts p).and fun n j => stepsL ts (stepD ts d) ts.length ns.length j (ns ++ [n])) = _
  rw [h.eq, steps_stop hw]
/- What may not stand behind a query. -/
def NxT (ts : List Tp) (q : Nat) : Prop := isW ts q wFrom = false ∧ isW ts q wComma = false ∧ isW ts q wAnd = false ∧ isW ts q wOr = false
def CQ (d : Nat) (new : List Np) : Prop := ∀ (ts : List Tp) (p : Nat) (ns : List Np), Has ts p (wq new) → NxT ts (p + (wq new).length) → ∃ f, RchQ ts (stepD ts d) p ns f (Out ns new).1 (p + (wq new).length) (Out ns new).2
def SubQ (d : Nat) (new : List Np) : Prop := ∀ (i : Nat) (n : Np), new[i]? = some n → 11 ≤ n.kind → ∃ pre s, new.take (i + 1) = pre ++ sh pre.length s ∧ Cd s ∧ C1 d s
structure QQ (d : Nat) (new : List Np) : Prop where
  ne : 0 < new.length
  ah : AhN new
  c : CQ d new
  sub : SubQ d new
  tw : AllT (wq new)
  nok : ∀ n ∈ new, NOk n
theorem kw_nxt {ts : List Tp} {q : Nat} {x : List UInt8} {r : List (List UInt8)} (h : Has ts q (x :: r)) (hk : Kw x) (h1 : x ≠ wFrom ∧ x ≠ wComma ∧ x ≠ wAnd ∧ x ≠ wOr) : NxT ts q :=
  ⟨by rw [h.kw hk]; simpa using h1.1, by rw [h.kw hk]; simpa using h1.2.1, by rw [h.kw hk]; simpa using h1.2.2.1, by rw [h.kw hk]; simpa using h1.2.2.2⟩
theorem fetchW_t {n : Np} (h : FetchN n) : AllT (fetchW n) := by
  obtain ⟨-, h1, h2, h3⟩ := h
  unfold fetchW
  refine AllT.app (AllT.cons tw_fetch (AllT.cons h1 allT_nil)) ?_
  split
  · exact allT_nil
  · exact AllT.cons tw_from (AllT.cons (tw_num h2) (AllT.cons tw_to (AllT.cons (tw_num h3) allT_nil)))
theorem sepL_t {α : Type} {P : α → List (List UInt8)} {l : List α} (h : ∀ x ∈ l, AllT (P x)) : AllT (sepL (l.map P)) := by
  cases l with
  | nil => exact allT_nil
  | cons y r =>
    rw [sepL_cons]
    refine (h y (by simp)).app ?_
    intro s hs
    obtain ⟨z, hz, hs⟩ := List.mem_flatMap.1 hs
    exact AllT.cons tw_comma (h z (by simp [hz])) s hs
theorem names_t {l : List (List UInt8)} (h : ∀ x ∈ l, Wd x) : AllT (sepL (nameP l)) := sepL_t (P := fun x => [x]) (fun x hx => AllT.cons (h x hx) allT_nil)
theorem agg1_t {a : Int × List UInt8} (ha : AggN a) : AllT (aggP1 a) := by
  rcases ha with rfl | ⟨hk, hw⟩
  · exact AllT.cons (tw_aggs 0) allT_nil
  · obtain ⟨j, hj, h0, hw2⟩ := agg_atR hk
    unfold aggP1
    rw [if_neg (by omega), hw2]
    exact AllT.cons (tw_aggs j) (AllT.cons hw allT_nil)
theorem aggs_t {l : List (Int × List UInt8)} (h : ∀ x ∈ l, AggN x) : AllT (sepL (aggP l)) := sepL_t (P := aggP1) (fun x hx => agg1_t (h x hx))
theorem fetch_nok {n : Np} (h : FetchN n) : NOk n := by
  obtain ⟨he, h1, h2, h3⟩ := h
  refine ⟨by rw [he]; exact in64_0, h2, h3, by rw [he]; exact in64_0, by rw [he]; show 0 ≤ 64; omega, tw_small h1, ?_, ?_⟩
  · rw [he]; exact ⟨by show 0 ≤ 1024; omega, fun x hx => by cases hx⟩
  · rw [he]; exact ⟨by show 0 ≤ 1024; omega, fun x hx => by cases hx⟩
theorem fetch_qq (d : Nat) {n : Np} (h : FetchN n) : QQ d [n] := by
  have hk : n.kind = 1 := by rw [h.1]
  have hl : n.l = [] := by rw [h.1]; rfl
  have hw : wq [n] = fetchW n := by
    have := (wq_last [] n).1
    rw [List.nil_append] at this
    rw [this]; unfold nodeX; rw [if_pos hk]
  refine ⟨by simp, ahn_nil.snoc (by rw [hl, hk]; rfl) (by rw [hl]; simp), fun ts p ns hh hn => ?_, fun i m hm h11 => ?_, by rw [hw]; exact fetchW_t h, nok_one (fetch_nok h)⟩
  · rw [hw] at hh hn ⊢
    rw [out_one ns hl]
    exact ⟨ts.length, .first n _ (has_fetch (r := []) h (by rw [List.append_nil]; exact hh) hn.1)⟩
  · cases i with
    | zero => simp at hm; subst hm; omega
    | succ i => simp at hm
/- A step more. -/
theorem out_step (ns A X : List Np) (nd : Np) (hA : 0 < A.length) : ((Out ns A).2 ++ sh (ns.length + A.length) X) ++ [shN ns.length nd] = (Out ns (A ++ sh A.length X ++ [nd])).2 ∧ ((Out ns A).2 ++ sh (ns.length + A.length) X).length = (Out ns (A ++ sh A.length X ++ [nd])).1 := by
  constructor
  · unfold Out
    simp only [sh_app, sh_sh, List.append_assoc]
    rfl
  · unfold Out
    simp only [List.length_append, sh_len, List.length_cons, List.length_nil]
    omega
theorem q_step {d : Nat} {A X : List Np} {nd : Np} {W : List UInt8} {T : List (List UInt8)} (hA : CQ d A) (hAn : 0 < A.length) (hw : wq (A ++ sh A.length X ++ [nd]) = wq A ++ ([wBar, W] ++ T))
    (hS : ∀ (ts : List Tp) (q : Nat) (ns : List Np), Has ts (q + 1) (W :: T) → NxT ts (q + 2 + T.length) → stepD ts d (Out ns A).1 (q + 1) (Out ns A).2 = .ok (shN ns.length nd, (Out ns A).2 ++ sh (ns.length + A.length) X) (q + 2 + T.length)) : CQ d (A ++ sh A.length X ++ [nd]) := by
  intro ts p ns hh hn
  rw [hw] at hh hn ⊢
  have h1 : Has ts (p + (wq A).length) (wBar :: (W :: T)) := hh.right
  have hb := h1.kw (kw_of tw_bar (.inr rfl))
  obtain ⟨f, hf⟩ := hA ts p ns hh.left (kw_nxt h1 (kw_of tw_bar (.inr rfl)) (by decide))
  have hw1 : isW ts (p + (wq A).length) wBar = true := by rw [hb]; simp
  have hlt := isW_lt hw1
  have hfu := hf.fuel
  obtain ⟨f', rfl⟩ : ∃ f', f = f' + 1 := ⟨f - 1, by omega⟩
  have el : p + (wq A ++ ([wBar, W] ++ T)).length = p + (wq A).length + 2 + T.length := by simp only [List.length_append, List.length_cons, List.length_nil]; omega
  rw [el] at hn ⊢
  have h2 := hS ts (p + (wq A).length) ns h1.tl hn
  have := RchQ.step f' _ _ _ _ _ hf hw1 h2 (by omega)
  obtain ⟨g1, g2⟩ := out_step ns A X nd hAn
  rw [g1, g2] at this
  exact ⟨f', this⟩
theorem wq_step {A X : List Np} {nd : Np} (hA : AhN A) (hAn : 0 < A.length) (hk : 2 ≤ nd.kind ∧ nd.kind ≤ 8) (h0 : lAt nd 0 = A.length - 1) : wq (A ++ sh A.length X ++ [nd]) = wq A ++ ([wBar, kindL.getD nd.kind.toNat []] ++ tailX (wd ((A ++ sh A.length X ++ [nd]).map xN) (A ++ sh A.length X).length) nd) := by
  rw [(wq_last _ _).1]
  unfold nodeX
  rw [if_neg (by omega), if_neg (by unfold isCnd; omega)]
  unfold stepX
  have h1 := (wd_seg (k := 0) (pre := []) (new := A) (post := sh A.length X ++ [nd]) rfl hA hAn (d := (A ++ sh A.length X).length) (by rw [List.length_append]; omega)).1
  rw [List.nil_append, sh_zero, ← List.append_assoc, Nat.zero_add] at h1
  rw [h0, h1, List.append_assoc]
theorem sub_qleft {A post : List Np} {d : Nat} (hA : SubQ d A) {i : Nat} {n : Np} (hi : i < A.length) (hn : A[i]? = some n) (hk : 11 ≤ n.kind) : ∃ pre s, (A ++ post).take (i + 1) = pre ++ sh pre.length s ∧ Cd s ∧ C1 d s := by
  obtain ⟨pre, s, h1, h2, h3⟩ := hA i n hn hk
  exact ⟨pre, s, by rw [List.take_append_of_le_length (by omega)]; exact h1, h2, h3⟩
theorem SubC.q {d : Nat} {new : List Np} (h : SubC d new) : SubQ d new := fun i _ hn _ => h i (List.getElem?_eq_some_iff.1 hn).1
theorem sub_qstep {d : Nat} {A X : List Np} {nd : Np} (hA : SubQ d A) (hX : SubQ d X) (hk : nd.kind < 11) : SubQ d (A ++ sh A.length X ++ [nd]) := by
  intro i n hn h11
  rcases Nat.lt_or_ge i A.length with h | h
  · rw [List.append_assoc] at hn ⊢
    rw [List.getElem?_append_left h] at hn
    exact sub_qleft hA h hn h11
  · rcases Nat.lt_or_ge i (A.length + X.length) with h' | h'
    · rw [List.getElem?_append_left (by rw [List.length_append, sh_len]; omega), List.getElem?_append_right h] at hn
      unfold sh at hn
      rw [List.getElem?_map] at hn
      cases e : X[i - A.length]? with
      | none => rw [e] at hn; cases hn
      | some m =>
        rw [e] at hn; cases hn
        obtain ⟨pre, s, h1, h2, h3⟩ := hX (i - A.length) m e h11
        refine ⟨A ++ sh A.length pre, s, ?_, h2, h3⟩
        rw [List.take_append_of_le_length (by rw [List.length_append, sh_len]; omega), show i + 1 = A.length + (i - A.length + 1) by omega, List.take_append, List.take_of_length_le (by omega), show A.length + (i - A.length + 1) - A.length = i - A.length + 1 by omega]
        have : (sh A.length X).take (i - A.length + 1) = sh A.length (X.take (i - A.length + 1)) := by unfold sh; rw [List.map_take]
        rw [this, h1, sh_app, sh_sh, List.append_assoc, List.length_append, sh_len]
    · rw [List.getElem?_append_right (by rw [List.length_append, sh_len]; omega)] at hn
      cases e : i - (A ++ sh A.length X).length with
      | zero => rw [e] at hn; simp at hn; subst hn; omega
      | succ m => rw [e] at hn; simp at hn
/- The seven steps. -/
def two (k : Int) (a r : Nat) : Np := { n0 with kind := k, l := [((a - 1 : Nat) : Int), ((a + r - 1 : Nat) : Int)] }
theorem two_out (k : Int) (ns A R : List Np) (hA : 0 < A.length) (hR : 0 < R.length) : shN ns.length (two k A.length R.length) = { n0 with kind := k, l := [((Out ns A).1 : Int), ((Out (Out ns A).2 R).1 : Int)] } := by
  have hl : (Out ns A).2.length = ns.length + A.length := Out.len ns A
  simp only [shN, two, List.map_cons, List.map_nil]
  congr 1
  show _ = [((ns.length + A.length - 1 : Nat) : Int), (((Out ns A).2.length + R.length - 1 : Nat) : Int)]
  rw [hl]
  simp only [List.cons.injEq, and_true]
  omega
theorem out_out (ns A R : List Np) : (Out (Out ns A).2 R).2 = (Out ns A).2 ++ sh (ns.length + A.length) R := by
  show (Out ns A).2 ++ sh (Out ns A).2.length R = _
  rw [Out.len]
theorem two_ah {k : Int} (hk : belowN k = 2) {A R : List Np} (hA : AhN A) (hR : AhN R) (hAn : 0 < A.length) (hRn : 0 < R.length) : AhN (A ++ sh A.length R ++ [two k A.length R.length]) := by
  refine (hA.app hR).snoc ?_ ?_
  · show ((2 : Nat) : Int) = belowN k
    rw [hk]; rfl
  · intro e he
    simp only [two, List.mem_cons, List.not_mem_nil, or_false] at he
    rw [List.length_append, sh_len]
    rcases he with rfl | rfl <;> omega
theorem where_qq {d : Nat} {A R : List Np} (hA : QQ d A) (hR : Qn1 d R) (hs : SubC d R) : QQ d (A ++ sh A.length R ++ [two 2 A.length R.length]) := by
  have hRn := hR.1.ne
  have hwq : wq (A ++ sh A.length R ++ [two 2 A.length R.length]) = wq A ++ ([wBar, stepW.getD 0 []] ++ wq R) := by
    rw [wq_step hA.ah hA.ne (by show (2 : Int) ≤ 2 ∧ (2 : Int) ≤ 8; decide) (by simp [lAt, two])]
    congr 2
    unfold tailX
    rw [if_pos (show (two 2 A.length R.length).kind = 2 from rfl), show lAt (two 2 A.length R.length) 1 = A.length + R.length - 1 by simp [lAt, two]]
    exact (wd_seg rfl hR.1.ah hRn (by rw [List.length_append, sh_len]; omega)).1
  refine ⟨by simp only [List.length_append, List.length_cons]; omega, two_ah rfl hA.ah hR.1.ah hA.ne hRn, q_step (W := stepW.getD 0 []) (T := wq R) hA.c hA.ne hwq ?_, sub_qstep hA.sub hs.q (by show (2 : Int) < 11; decide), by rw [hwq]; exact hA.tw.app (AllT.cons tw_bar (AllT.cons (tw_steps 0) hR.1.tw)), nok_app (nok_app hA.nok (nok_sh hR.1.nok _)) (nok_one (nok_n0 _ _))⟩
  · intro ts q ns hh hn
    obtain ⟨f, hf⟩ := hR.c1 ts (q + 2) (Out ns A).2 hh.tl hn.2.2.1
    have hc : condS ts d (q + 2) (Out ns A).2 = .ok (Out (Out ns A).2 R) (q + 2 + (wq R).length) := hf.stop hn.2.2.2
    unfold stepD stepB
    rw [has_oneOf hh (kw_of (tw_steps 0) (.inl rfl)) (idx_steps 0)]
    show (condS ts d (q + 2) (Out ns A).2).and _ = _
    rw [hc]
    show Rs.ok _ _ = _
    rw [two_out 2 ns A R hA.ne hRn, out_out]
theorem set_qq {d : Nat} {A : List Np} {k : Fin 7} {nd : Np} (hA : QQ d A) (hk : nd.kind = 2 + (k.1 : Int)) (hb : belowN nd.kind = 1) (hl : nd.l = [((A.length - 1 : Nat) : Int)]) (ht : ∀ p, tailX p nd = tailX (fun _ => []) nd) (htw : AllT (tailX (fun _ => []) nd)) (hno : NOk nd) (hS : ∀ (ts : List Tp) (q : Nat) (ns : List Np), oneOfS ts stepW q = .ok k.1 (q + 1) → Has ts (q + 1) (tailX (fun _ => []) nd) → NxT ts (q + 1 + (tailX (fun _ => []) nd).length) → stepD ts d (Out ns A).1 q (Out ns A).2 = .ok (shN ns.length nd, (Out ns A).2) (q + 1 + (tailX (fun _ => []) nd).length)) : QQ d (A ++ [nd]) := by
  have hAn := hA.ne
  have e : A ++ [nd] = A ++ sh A.length [] ++ [nd] := by simp [sh]
  have hkk : 2 ≤ nd.kind ∧ nd.kind ≤ 8 := by have := k.2; omega
  have hkw : kindL.getD nd.kind.toNat [] = stepW.getD k.1 [] := by
    rw [hk]
    have : ∀ k : Fin 7, kindL.getD (2 + (k.1 : Int)).toNat [] = stepW.getD k.1 [] := by decide
    exact this k
  have hwq : wq (A ++ sh A.length [] ++ [nd]) = wq A ++ ([wBar, stepW.getD k.1 []] ++ tailX (fun _ => []) nd) := by rw [wq_step hA.ah hA.ne hkk (by unfold lAt; rw [hl]; simp), hkw, ht]
  rw [e]
  refine ⟨by simp only [List.length_append, List.length_cons]; omega, ?_, q_step (W := stepW.getD k.1 []) (T := tailX (fun _ => []) nd) hA.c hA.ne hwq ?_, sub_qstep hA.sub (fun i n h => by simp at h) (by omega), by rw [hwq]; exact hA.tw.app (AllT.cons tw_bar (AllT.cons (tw_steps k) htw)), by rw [← e]; exact nok_app hA.nok (nok_one hno)⟩
  · rw [← e]
    refine hA.ah.snoc (by rw [hl, hb]; rfl) ?_
    rw [hl]; intro x hx; simp at hx; omega
  · intro ts q ns hh hn
    rw [hS ts (q + 1) ns (has_oneOf hh (kw_of (tw_steps k) (.inl rfl)) (idx_steps k)) hh.tl hn]
    simp [sh]
theorem laid_sh (ns A : List Np) (hA : 0 < A.length) : [((A.length - 1 : Nat) : Int)].map (· + (ns.length : Int)) = [((Out ns A).1 : Int)] := by
  simp only [List.map_cons, List.map_nil, List.cons.injEq, and_true]
  show _ = ((ns.length + A.length - 1 : Nat) : Int)
  omega
theorem keep_qq {d : Nat} {A : List Np} {y : List UInt8} {xs : List (List UInt8)} (hA : QQ d A) (hx : ∀ x ∈ y :: xs, Wd x) (hl : (y :: xs).length ≤ 1024) : QQ d (A ++ [{ laidN 3 (A.length - 1) with names := y :: xs }]) := by
  refine set_qq (k := 1) hA rfl rfl rfl (fun p => rfl) (names_t hx) ⟨in64_0, in64_0, in64_0, in64_0, by show 0 ≤ 64; omega, by show 0 ≤ 2048; omega, ⟨hl, fun x hm => tw_small (hx x hm)⟩, ⟨by show 0 ≤ 1024; omega, fun x hx => by cases hx⟩⟩ ?_
  intro ts q ns ho hh hn
  have ht : tailX (fun _ => []) { laidN 3 (A.length - 1) with names := y :: xs } = sepL (nameP (y :: xs)) := rfl
  rw [ht] at hh hn ⊢
  unfold stepD stepB
  rw [ho]
  show (listS ts (nameS ts) (q + 1)).and _ = _
  rw [has_names (r := []) hx (by rw [List.append_nil]; exact hh) hn.2.1]
  show Rs.ok ({ laidN 3 (Out ns A).1 with names := y :: xs }, (Out ns A).2) _ = _
  congr 2
  simp only [shN, laidN]
  rw [laid_sh ns A hA.ne]
theorem align_qq {d : Nat} {A : List Np} {n : Int} (hA : QQ d A) (hn' : In64 n) : QQ d (A ++ [{ laidN 4 (A.length - 1) with n := n }]) := by
  refine set_qq (k := 2) hA rfl rfl rfl (fun p => rfl) (AllT.cons (tw_num hn') allT_nil) ⟨hn', in64_0, in64_0, in64_0, by show 0 ≤ 64; omega, by show 0 ≤ 2048; omega, ⟨by show 0 ≤ 1024; omega, fun x hx => by cases hx⟩, ⟨by show 0 ≤ 1024; omega, fun x hx => by cases hx⟩⟩ ?_
  intro ts q ns ho hh hn
  have ht : tailX (fun _ => []) { laidN 4 (A.length - 1) with n := n } = [Lib.itoa n] := rfl
  rw [ht] at hh hn ⊢
  unfold stepD stepB
  rw [ho]
  show (numS' ts (q + 1)).and _ = _
  rw [has_num hn' hh]
  show Rs.ok ({ laidN 4 (Out ns A).1 with n := n }, (Out ns A).2) _ = _
  congr 2
  simp only [shN, laidN]
  rw [laid_sh ns A hA.ne]
theorem top_qq {d : Nat} {A : List Np} {n : Int} {s : List UInt8} (hA : QQ d A) (hn' : In64 n) (hs : Wd s) : QQ d (A ++ [{ laidN 6 (A.length - 1) with n := n, s := s }]) := by
  refine set_qq (k := 4) hA rfl rfl rfl (fun p => rfl) (AllT.cons (tw_num hn') (AllT.cons tw_by (AllT.cons hs allT_nil))) ⟨hn', in64_0, in64_0, in64_0, by show 0 ≤ 64; omega, tw_small hs, ⟨by show 0 ≤ 1024; omega, fun x hx => by cases hx⟩, ⟨by show 0 ≤ 1024; omega, fun x hx => by cases hx⟩⟩ ?_
  intro ts q ns ho hh hn
  have ht : tailX (fun _ => []) { laidN 6 (A.length - 1) with n := n, s := s } = [Lib.itoa n, wBy, s] := rfl
  rw [ht] at hh hn ⊢
  unfold stepD stepB
  rw [ho]
  show (numS' ts (q + 1)).and _ = _
  rw [has_num hn' hh]
  show (wantS ts wBy (q + 1 + 1)).and _ = _
  rw [has_want hh.tl (kw_of tw_by (.inl rfl))]
  show (nameS ts (q + 1 + 1 + 1)).and _ = _
  rw [has_name hh.tl.tl hs]
  show Rs.ok ({ laidN 6 (Out ns A).1 with n := n, s := s }, (Out ns A).2) (q + 1 + [Lib.itoa n, wBy, s].length) = _
  congr 2
  simp only [shN, laidN]
  rw [laid_sh ns A hA.ne]
theorem group_qq {d : Nat} {A : List Np} {names : List (List UInt8)} {y : Int × List UInt8} {gs : List (Int × List UInt8)} (hA : QQ d A) (hx : ∀ x ∈ names, Wd x) (hg : ∀ x ∈ y :: gs, AggN x) (hl1 : names.length ≤ 1024) (hl2 : (y :: gs).length ≤ 1024) : QQ d (A ++ [{ laidN 5 (A.length - 1) with names := names, aggs := y :: gs }]) := by
  refine set_qq (k := 3) hA rfl rfl rfl (fun p => rfl) (((names_t hx).app (AllT.cons tw_colon allT_nil)).app (aggs_t hg)) ⟨in64_0, in64_0, in64_0, in64_0, by show 0 ≤ 64; omega, by show 0 ≤ 2048; omega, ⟨hl1, fun x hm => tw_small (hx x hm)⟩, ⟨hl2, fun a hm => by rcases hg a hm with h | h; (subst h; show 0 ≤ 2048; omega); exact tw_small h.2⟩⟩ ?_
  intro ts q ns ho hh hn
  have ht : tailX (fun _ => []) { laidN 5 (A.length - 1) with names := names, aggs := y :: gs } = sepL (nameP names) ++ [wColon] ++ sepL (aggP (y :: gs)) := rfl
  rw [ht] at hh hn ⊢
  unfold stepD stepB
  rw [ho]
  have hc : Has ts (q + 1 + (sepL (nameP names)).length) [wColon] := hh.left.right
  have hcw := hc.kw (kw_of tw_colon (.inr rfl))
  have ha : Has ts (q + 1 + (sepL (nameP names)).length + 1) (sepL (aggP (y :: gs))) := by
    have := hh.right; rwa [List.length_append, ← Nat.add_assoc] at this
  have el : q + 1 + (sepL (nameP names) ++ [wColon] ++ sepL (aggP (y :: gs))).length = q + 1 + (sepL (nameP names)).length + 1 + (sepL (aggP (y :: gs))).length := by
    simp only [List.length_append, List.length_cons, List.length_nil]; omega
  rw [el] at hn ⊢
  have hag := has_aggs (r := []) hg (by rw [List.append_nil]; exact ha) hn.2.1
  cases names with
  | nil =>
    have e0 : (sepL (nameP [])).length = 0 := rfl
    rw [e0, Nat.add_zero] at hcw hag ⊢
    show (if isW ts (q + 1) wColon = true then _ else _) = _
    rw [hcw, if_pos (by simp), hag]
    show Rs.ok ({ laidN 5 (Out ns A).1 with aggs := y :: gs }, (Out ns A).2) _ = _
    congr 2
    simp only [shN, laidN]
    rw [laid_sh ns A hA.ne]
    rfl
  | cons z zs =>
    have hz := hx z (by simp)
    have h1 : Has ts (q + 1) (sepL (nameP (z :: zs))) := hh.left.left
    have hz2 : ∃ tl, sepL (nameP (z :: zs)) = z :: tl := by
      have := sepL_cons (fun x : List UInt8 => [x]) z zs
      exact ⟨_, this⟩
    obtain ⟨tl, htl⟩ := hz2
    have h2 : Has ts (q + 1) (z :: tl) := by rw [← htl]; exact h1
    show (if isW ts (q + 1) wColon = true then _ else _) = _
    rw [h2.kw hz.kw, if_neg (by simpa using hz.not_colon), has_names (r := []) hx (by rw [List.append_nil]; exact h1) (by rw [hcw]; decide)]
    show (wantS ts wColon _).and _ = _
    rw [has_want hc (kw_of tw_colon (.inr rfl))]
    show (listS ts (aggS ts) _).and _ = _
    rw [hag]
    show Rs.ok ({ laidN 5 (Out ns A).1 with names := z :: zs, aggs := y :: gs }, (Out ns A).2) _ = _
    congr 2
    simp only [shN, laidN]
    rw [laid_sh ns A hA.ne]
/- A query between brackets. -/
theorem br_query {e : Nat} {R : List Np} (hR : QQ e R) {ts : List Tp} {p : Nat} {ns : List Np} (hh : Has ts p (inB (wq R))) : inBr ts (some (queryS ts e)) p ns = .ok (Out ns R) (p + (inB (wq R)).length) := by
  have h1 : Has ts p (wOpen :: (wq R ++ [wShut])) := hh
  have hs : Has ts (p + 1 + (wq R).length) [wShut] := h1.tl.right
  have hsw := hs.kw (kw_of tw_shut (.inr rfl))
  obtain ⟨f, hf⟩ := hR.c ts (p + 1) ns h1.tl.left (kw_nxt hs (kw_of tw_shut (.inr rfl)) (by decide))
  have hc := hf.stop (by rw [hsw]; decide)
  unfold inBr
  rw [h1.kw (kw_of tw_open (.inr rfl)), if_pos (by simp)]
  show (queryS ts e (p + 1) ns).and _ = _
  rw [hc]
  show (wantS ts wShut (p + 1 + (wq R).length)).and _ = _
  rw [has_want hs (kw_of tw_shut (.inr rfl))]
  show Rs.ok (Out ns R) _ = _
  congr 1
  simp [inB]; omega
theorem SubQ.mo {d : Nat} {new : List Np} (h : SubQ d new) : SubQ (d + 1) new := fun i n hi hk => let ⟨pre, s, h1, h2, h3⟩ := h i n hi hk; ⟨pre, s, h1, h2, h3.mo⟩
theorem join_qq {e : Nat} {A R : List Np} {k : Int} (hk : k = 7 ∨ k = 8) (hA : QQ (e + 1) A) (hR : QQ e R) : QQ (e + 1) (A ++ sh A.length R ++ [two k A.length R.length]) := by
  have hRn := hR.ne
  have hkd : (two k A.length R.length).kind = k := rfl
  have hwq : wq (A ++ sh A.length R ++ [two k A.length R.length]) = wq A ++ ([wBar, stepW.getD (k.toNat - 2) []] ++ inB (wq R)) := by
    rw [wq_step hA.ah hA.ne (by rw [hkd]; omega) (by simp [lAt, two])]
    congr 2
    · rw [hkd]; rcases hk with rfl | rfl <;> rfl
    · unfold tailX
      rw [hkd, if_neg (by omega), if_neg (by omega), if_neg (by omega), if_neg (by omega), if_neg (by omega), show lAt (two k A.length R.length) 1 = A.length + R.length - 1 by simp [lAt, two]]
      rw [(wd_seg rfl hR.ah hRn (by rw [List.length_append, sh_len]; omega)).1]
  refine ⟨by simp only [List.length_append, List.length_cons]; omega, two_ah (by rcases hk with rfl | rfl <;> rfl) hA.ah hR.ah hA.ne hRn, q_step (W := stepW.getD (k.toNat - 2) []) (T := inB (wq R)) hA.c hA.ne hwq ?_, sub_qstep hA.sub hR.sub.mo (by rw [hkd]; omega), by rw [hwq]; exact hA.tw.app (AllT.cons tw_bar (by rcases hk with rfl | rfl; exact AllT.cons (tw_steps 5) hR.tw.inB; exact AllT.cons (tw_steps 6) hR.tw.inB)), nok_app (nok_app hA.nok (nok_sh hR.nok _)) (nok_one (nok_n0 _ _))⟩
  · intro ts q ns hh hn
    have hb := br_query hR (ns := (Out ns A).2) hh.tl
    unfold stepD stepB
    rcases hk with rfl | rfl
    · rw [has_oneOf hh (kw_of (tw_steps 5) (.inl rfl)) (idx_steps 5)]
      show (inBr ts (some (queryS ts e)) (q + 2) (Out ns A).2).and _ = _
      rw [hb]
      show Rs.ok _ _ = _
      rw [two_out 7 ns A R hA.ne hRn, out_out]
    · rw [has_oneOf hh (kw_of (tw_steps 6) (.inl rfl)) (idx_steps 6)]
      show (inBr ts (some (queryS ts e)) (q + 2) (Out ns A).2).and _ = _
      rw [hb]
      show Rs.ok _ _ = _
      rw [two_out 8 ns A R hA.ne hRn, out_out]
end Go.Proofs.YtmpjmimhoikknaaGreatDoor
