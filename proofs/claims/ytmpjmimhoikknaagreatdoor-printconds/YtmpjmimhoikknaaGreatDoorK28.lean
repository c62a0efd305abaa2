/-
  What is read of a text's tokens is a query whose words are read as it.
  slices.Equal of numbers, texts, aggregates, columns.
  Print's same: two nodes held against one another; slices.EqualFunc by it.
-/
import Derived.Test.YtmpjmimhoikknaaGreatDoorK17
import Derived.Test.YtmpjmimhoikknaaGreatDoorK27
import Derived.Lib.QuietBelow
import Derived.Deep.MidRow
namespace Go.Proofs.YtmpjmimhoikknaaGreatDoor

section
variable {ts : List Tp} {i j : Nat}
theorem more_all {α : Type} {one : Nat → Rs α} {P : α → Prop} (ho : ∀ i x j, one i = .ok x j → P x) : ∀ (f : Nat) (acc : List α) (i : Nat) (l : List α) (j : Nat), (∀ x ∈ acc, P x) → moreS ts one f acc i = .ok l j → ∀ x ∈ l, P x
  | 0, acc, i, l, j, ha, h => by unfold moreS at h; cases h; exact ha
  | f + 1, acc, i, l, j, ha, h => by
    unfold moreS at h
    split at h
    · obtain ⟨y, i1, h1, h2⟩ := and_ok h
      exact more_all ho f _ _ _ _ (fun x hx => by
        rcases List.mem_append.1 hx with hx | hx
        · exact ha x hx
        · simp at hx; subst hx; exact ho _ _ _ h1) h2
    · cases h; exact ha
theorem more_ne {α : Type} {one : Nat → Rs α} : ∀ (f : Nat) (acc : List α) (i : Nat) (l : List α) (j : Nat), acc ≠ [] → moreS ts one f acc i = .ok l j → l ≠ []
  | 0, acc, i, l, j, ha, h => by unfold moreS at h; cases h; exact ha
  | f + 1, acc, i, l, j, ha, h => by
    unfold moreS at h
    split at h
    · obtain ⟨y, i1, h1, h2⟩ := and_ok h
      exact more_ne f _ _ _ _ (by simp) h2
    · cases h; exact ha
theorem list_all {α : Type} {one : Nat → Rs α} {P : α → Prop} (ho : ∀ i x j, one i = .ok x j → P x) {l : List α} (h : listS ts one i = .ok l j) : (∀ x ∈ l, P x) ∧ ∃ y xs, l = y :: xs := by
  obtain ⟨y, i1, h1, h2⟩ := and_ok h
  refine ⟨more_all ho _ _ _ _ _ (fun x hx => by simp at hx; subst hx; exact ho _ _ _ h1) h2, ?_⟩
  have := more_ne _ _ _ _ _ (by simp) h2
  cases l with
  | nil => exact absurd rfl this
  | cons a b => exact ⟨a, b, rfl⟩
/- As many words as tokens. -/
theorem more_len {α : Type} {one : Nat → Rs α} {P : α → List (List UInt8)} (ho : ∀ i x j, one i = .ok x j → i + (P x).length ≤ j) : ∀ (f : Nat) (acc : List α) (i : Nat) (l : List α) (j i0 : Nat), acc ≠ [] → i0 + (sepL (acc.map P)).length ≤ i → moreS ts one f acc i = .ok l j → i0 + (sepL (l.map P)).length ≤ j
  | 0, acc, i, l, j, i0, hn, ha, h => by unfold moreS at h; cases h; exact ha
  | f + 1, acc, i, l, j, i0, hn, ha, h => by
    unfold moreS at h
    split at h
    · obtain ⟨y, i1, h1, h2⟩ := and_ok h
      have := ho _ _ _ h1
      refine more_len ho f _ _ _ _ i0 (by simp) ?_ h2
      rw [List.map_append, List.map_cons, List.map_nil, sepL_snoc _ _ (by simpa using hn)]
      simp only [List.length_append, List.length_cons]; omega
    · cases h; exact ha
theorem list_lenR {α : Type} {one : Nat → Rs α} {P : α → List (List UInt8)} (ho : ∀ i x j, one i = .ok x j → i + (P x).length ≤ j) {l : List α} (h : listS ts one i = .ok l j) : i + (sepL (l.map P)).length ≤ j := by
  obtain ⟨y, i1, h1, h2⟩ := and_ok h
  exact more_len ho _ _ _ _ _ i (by simp) (by simpa [sepL] using ho _ _ _ h1) h2
theorem names_len {l : List (List UInt8)} (h : listS ts (nameS ts) i = .ok l j) : i + (sepL (nameP l)).length ≤ j := list_lenR (P := fun x => [x]) (fun i x j h => (name_go ts i x j h).1) h
theorem sepL_ge {α : Type} {P : α → List (List UInt8)} (hP : ∀ x, 1 ≤ (P x).length) : ∀ l : List α, l.length ≤ (sepL (l.map P)).length
  | [] => Nat.zero_le _
  | x :: r => by
    rw [sepL_cons, List.length_append]
    have h1 := hP x
    have : ∀ zs : List α, zs.length ≤ (zs.flatMap (fun y => wComma :: P y)).length := by
      intro zs
      induction zs with
      | nil => simp
      | cons z zs ih => simp only [List.flatMap_cons, List.length_append, List.length_cons]; omega
    have := this r
    simp only [List.length_cons]; omega
theorem list_small {α : Type} {one : Nat → Rs α} {P : α → List (List UInt8)} (hT : TokOk ts) (hgo : Go1 ts 1 one) (hP : ∀ x, 1 ≤ (P x).length) (ho : ∀ i x j, one i = .ok x j → i + (P x).length ≤ j) {l : List α} (h : listS ts one i = .ok l j) : l.length ≤ 1024 := by
  have h1 := list_lenR ho h
  have h2 := sepL_ge hP l
  have h3 := (list_go hgo _ _ _ h).2
  have := hT.len
  omega
theorem agg_n (hT : TokOk ts) {a : Int × List UInt8} (h : aggS ts i = .ok a j) : AggN a ∧ i + (aggP1 a).length ≤ j := by
  obtain ⟨k, i1, h1, h2⟩ := and_ok h
  have g1 := oneOf_go ts _ _ _ _ h1
  have hk := oneOf_lt h1
  simp [aggW] at hk
  split at h2
  · cases h2; exact ⟨.inl rfl, by show i + 1 ≤ j; omega⟩
  · rename_i h0
    obtain ⟨x, i2, h3, h4⟩ := and_ok h2
    have g2 := name_go ts _ _ _ h3
    cases h4
    refine ⟨.inr ⟨⟨by show 2 ≤ 1 + (k : Int); omega, by show 1 + (k : Int) ≤ 6; omega⟩, (name_wd hT h3).1⟩, ?_⟩
    unfold aggP1
    rw [if_neg (by show ¬ 1 + (k : Int) = 1; omega)]
    show i + 2 ≤ j; omega
theorem aggs_len (hT : TokOk ts) {l : List (Int × List UInt8)} (h : listS ts (aggS ts) i = .ok l j) : i + (sepL (aggP l)).length ≤ j := list_lenR (P := aggP1) (fun _ _ _ h => (agg_n hT h).2) h
theorem fetch_n (hT : TokOk ts) {n : Np} (h : fetchS ts i = .ok n j) : FetchN n ∧ i + (fetchW n).length ≤ j := by
  obtain ⟨u, i1, h1, h2⟩ := and_ok h
  have g1 := want_go ts _ _ _ _ h1
  obtain ⟨x, i2, h3, h4⟩ := and_ok h2
  have g2 := name_go ts _ _ _ h3
  have hx := (name_wd hT h3).1
  split at h4
  · obtain ⟨a, i3, h5, h6⟩ := and_ok h4
    have g3 := num_go ts _ _ _ h5
    obtain ⟨v, i4, h7, h8⟩ := and_ok h6
    have g4 := want_go ts _ _ _ _ h7
    obtain ⟨b, i5, h9, h10⟩ := and_ok h8
    have g5 := num_go ts _ _ _ h9
    cases h10
    refine ⟨⟨rfl, hx, num_in hT h5, num_in hT h9⟩, ?_⟩
    unfold fetchW
    split
    · show i + 2 ≤ j; omega
    · show i + 6 ≤ j; omega
  · cases h4
    refine ⟨⟨rfl, hx, (show In64 0 by unfold In64; decide), (show In64 1099511627775 by unfold In64; decide)⟩, ?_⟩
    unfold fetchW
    rw [if_pos ⟨rfl, rfl⟩]
    show i + 2 ≤ j; omega
end
theorem wlen_two {k : Int} {A R : List Np} (hA : AhN A) (hR : AhN R) (hAn : 0 < A.length) (hRn : 0 < R.length) (hk : k = 2 ∨ k = 7 ∨ k = 8) : (wq (A ++ sh A.length R ++ [two k A.length R.length])).length = (wq A).length + 2 + ((wq R).length + if k = 2 then 0 else 2) := by
  have hkd : (two k A.length R.length).kind = k := rfl
  rw [wq_step hA hAn (by rw [hkd]; omega) (by simp [lAt, two])]
  have h1 := (wd_seg (pre := A) (new := R) (post := [two k A.length R.length]) (k := A.length) rfl hR hRn (d := (A ++ sh A.length R).length) (by rw [List.length_append, sh_len]; omega)).1
  have e1 : lAt (two k A.length R.length) 1 = A.length + R.length - 1 := by simp [lAt, two]
  unfold tailX
  rw [hkd, e1, h1]
  rcases hk with rfl | rfl | rfl
  · simp; omega
  · simp [inB]; omega
  · simp [inB]; omega
theorem wlen_one {A : List Np} {nd : Np} (hA : AhN A) (hAn : 0 < A.length) (hk : 2 ≤ nd.kind ∧ nd.kind ≤ 8) (hl : nd.l = [((A.length - 1 : Nat) : Int)]) {T : List (List UInt8)} (ht : ∀ p, tailX p nd = T) : (wq (A ++ [nd])).length = (wq A).length + 2 + T.length := by
  have e : A ++ [nd] = A ++ sh A.length [] ++ [nd] := by simp [sh]
  rw [e, wq_step hA hAn hk (by unfold lAt; rw [hl]; simp), ht]
  simp only [List.length_append, List.length_cons, List.length_nil]; omega
theorem out_laid (ns A : List Np) (hA : 0 < A.length) (nd : Np) (m : Np) (h : shN ns.length nd = m) : (Out ns A).2 ++ [m] = (Out ns (A ++ [nd])).2 ∧ (Out ns A).2.length = (Out ns (A ++ [nd])).1 := by
  obtain ⟨g1, g2⟩ := out_step ns A [] nd hA
  have e : A ++ sh A.length [] ++ [nd] = A ++ [nd] := by simp [sh]
  rw [e] at g1 g2
  have e2 : (Out ns A).2 ++ sh (ns.length + A.length) [] = (Out ns A).2 := by simp [sh]
  rw [e2] at g1 g2
  rw [← h]
  exact ⟨g1, g2⟩
theorem laid_out (ns A : List Np) (hA : 0 < A.length) (k : Int) (f : Np → Np) (hf : ∀ n, (f n).l = n.l) (hg : ∀ n m : Np, (∀ l, { n with l := l } = { m with l := l }) → ∀ l, { f n with l := l } = { f m with l := l }) : shN ns.length (f (laidN k (A.length - 1))) = f (laidN k (Out ns A).1) := by
  have h1 : ∀ l, { f (laidN k (A.length - 1)) with l := l } = { f (laidN k (Out ns A).1) with l := l } := hg _ _ (fun l => rfl)
  have h2 : shN ns.length (f (laidN k (A.length - 1))) = { f (laidN k (A.length - 1)) with l := [((Out ns A).1 : Int)] } := by
    unfold shN
    congr 1
    rw [hf]
    show [((A.length - 1 : Nat) : Int)].map _ = _
    rw [laid_sh ns A hA]
  rw [h2, h1]
  have h3 := hf (laidN k (Out ns A).1)
  have h4 : [((Out ns A).1 : Int)] = (f (laidN k (Out ns A).1)).l := by rw [h3]; rfl
  rw [h4]
def QueryR (ts : List Tp) (d : Nat) : Prop := ∀ i ns r j, queryS ts d i ns = .ok r j → ∃ new, r = Out ns new ∧ QQ d new ∧ i + (wq new).length ≤ j
theorem br_rt {ts : List Tp} {d : Nat} (hD : ∀ e, d = e + 1 → QueryR ts e) {ns : List Np} {i j : Nat} {r : Nat × List Np} (h : inBr ts (deepQ ts d) i ns = .ok r j) : ∃ e R, d = e + 1 ∧ r = Out ns R ∧ QQ e R ∧ i + (wq R).length + 2 ≤ j := by
  unfold inBr at h
  cases d with
  | zero =>
    split at h
    · cases (show Rs.bad i 2 = Rs.ok r j from h)
    · cases h
  | succ e =>
    by_cases hw : isW ts i wOpen = true
    · rw [if_pos hw] at h
      obtain ⟨r1, i1, h1, h2⟩ := and_ok (show (queryS ts e (i + 1) ns).and _ = _ from h)
      obtain ⟨u, i2, h3, h4⟩ := and_ok h2
      have g := want_go ts _ _ _ _ h3
      cases h4
      obtain ⟨R, rfl, hR, hl⟩ := hD e rfl _ _ _ _ h1
      exact ⟨e, R, rfl, rfl, hR, by omega⟩
    · rw [if_neg hw] at h; cases h
theorem step_rt {ts : List Tp} (hT : TokOk ts) {d : Nat} (hD : ∀ e, d = e + 1 → QueryR ts e) {ns A : List Np} (hA : QQ d A) {i j : Nat} {r : Np × List Np} (h : stepD ts d (Out ns A).1 i (Out ns A).2 = .ok r j) : ∃ new, r.2 ++ [r.1] = (Out ns new).2 ∧ r.2.length = (Out ns new).1 ∧ QQ d new ∧ (wq A).length + 1 + (j - i) ≥ (wq new).length ∧ i ≤ j := by
  have hAn := hA.ne
  unfold stepD stepB at h
  obtain ⟨k, i1, h1, h2⟩ := and_ok h
  have g1 := oneOf_go ts _ _ _ _ h1
  have hk := oneOf_lt h1
  simp [stepW] at hk
  split at h2
  · obtain ⟨r1, i2, h3, h4⟩ := and_ok h2
    obtain ⟨R, rfl, hR, hs, hl⟩ := cond_rt (not_rt hT d) _ _ _ _ h3
    cases h4
    refine ⟨A ++ sh A.length R ++ [two 2 A.length R.length], ?_, ?_, where_qq hA hR hs, ?_, by omega⟩
    · rw [← (out_step ns A R _ hAn).1, two_out 2 ns A R hAn hR.1.ne, out_out]
    · rw [← (out_step ns A R (two 2 A.length R.length) hAn).2, out_out]
    · rw [wlen_two hA.ah hR.1.ah hAn hR.1.ne (.inl rfl), if_pos rfl]; omega
  · obtain ⟨l, i2, h3, h4⟩ := and_ok h2
    obtain ⟨hx, y, xs, rfl⟩ := list_all (fun _ _ _ h => (name_wd hT h).1) h3
    have hl := names_len h3
    have hsm := list_small hT (name_go ts) (P := fun x => [x]) (fun _ => Nat.le_refl _) (fun i x j h => (name_go ts i x j h).1) h3
    cases h4
    obtain ⟨o1, o2⟩ := out_laid ns A hAn { laidN 3 (A.length - 1) with names := y :: xs } _ (laid_out ns A hAn 3 (fun n => { n with names := y :: xs }) (fun _ => rfl) (fun n m h l => by have := h l; simp only [Np.mk.injEq] at this ⊢; simp [this]))
    exact ⟨_, o1, o2, keep_qq hA hx hsm, by rw [wlen_one hA.ah hAn (by show (2 : Int) ≤ 3 ∧ (3 : Int) ≤ 8; decide) rfl (T := sepL (nameP (y :: xs))) (fun p => rfl)]; omega, by omega⟩
  · obtain ⟨n, i2, h3, h4⟩ := and_ok h2
    have g2 := num_go ts _ _ _ h3
    cases h4
    obtain ⟨o1, o2⟩ := out_laid ns A hAn { laidN 4 (A.length - 1) with n := n } _ (laid_out ns A hAn 4 (fun m => { m with n := n }) (fun _ => rfl) (fun n m h l => by have := h l; simp only [Np.mk.injEq] at this ⊢; simp [this]))
    exact ⟨_, o1, o2, align_qq hA (num_in hT h3), by rw [wlen_one hA.ah hAn (by show (2 : Int) ≤ 4 ∧ (4 : Int) ≤ 8; decide) rfl (T := [Lib.itoa n]) (fun p => rfl)]; simp; omega, by omega⟩
  · split at h2
    · rename_i hcol
      obtain ⟨l, i2, h3, h4⟩ := and_ok h2
      obtain ⟨hx, y, xs, rfl⟩ := list_all (fun _ _ _ h => (agg_n hT h).1) h3
      have hl := aggs_len hT h3
      have hsm2 := list_small hT (agg_go ts) (P := aggP1) (fun a => by unfold aggP1; split <;> simp) (fun _ _ _ h => (agg_n hT h).2) h3
      cases h4
      obtain ⟨o1, o2⟩ := out_laid ns A hAn { laidN 5 (A.length - 1) with aggs := y :: xs } _ (laid_out ns A hAn 5 (fun n => { n with aggs := y :: xs }) (fun _ => rfl) (fun n m h l => by have := h l; simp only [Np.mk.injEq] at this ⊢; simp [this]))
      exact ⟨_, o1, o2, group_qq (names := []) hA (fun x hx => by simp at hx) hx (by simp) hsm2, by rw [wlen_one hA.ah hAn (by show (2 : Int) ≤ 5 ∧ (5 : Int) ≤ 8; decide) rfl (T := [wColon] ++ sepL (aggP (y :: xs))) (fun p => rfl)]; simp only [List.length_append, List.length_cons, List.length_nil]; omega, by omega⟩
    · obtain ⟨l, i2, h3, h4⟩ := and_ok h2
      obtain ⟨hx, -⟩ := list_all (fun _ _ _ h => (name_wd hT h).1) h3
      have hl := names_len h3
      obtain ⟨u, i3, h5, h6⟩ := and_ok h4
      have g3 := want_go ts _ _ _ _ h5
      obtain ⟨g, i4, h7, h8⟩ := and_ok h6
      obtain ⟨hy, y, xs, rfl⟩ := list_all (fun _ _ _ h => (agg_n hT h).1) h7
      have hl2 := aggs_len hT h7
      have hsm := list_small hT (name_go ts) (P := fun x => [x]) (fun _ => Nat.le_refl _) (fun i x j h => (name_go ts i x j h).1) h3
      have hsm2 := list_small hT (agg_go ts) (P := aggP1) (fun a => by unfold aggP1; split <;> simp) (fun _ _ _ h => (agg_n hT h).2) h7
      cases h8
      obtain ⟨o1, o2⟩ := out_laid ns A hAn { laidN 5 (A.length - 1) with names := l, aggs := y :: xs } _ (laid_out ns A hAn 5 (fun n => { n with names := l, aggs := y :: xs }) (fun _ => rfl) (fun n m h l => by have := h l; simp only [Np.mk.injEq] at this ⊢; simp [this]))
      exact ⟨_, o1, o2, group_qq hA hx hy hsm hsm2, by rw [wlen_one hA.ah hAn (by show (2 : Int) ≤ 5 ∧ (5 : Int) ≤ 8; decide) rfl (T := sepL (nameP l) ++ [wColon] ++ sepL (aggP (y :: xs))) (fun p => rfl)]; simp only [List.length_append, List.length_cons, List.length_nil]; omega, by omega⟩
  · obtain ⟨n, i2, h3, h4⟩ := and_ok h2
    have g2 := num_go ts _ _ _ h3
    obtain ⟨u, i3, h5, h6⟩ := and_ok h4
    have g3 := want_go ts _ _ _ _ h5
    obtain ⟨s, i4, h7, h8⟩ := and_ok h6
    have g4 := name_go ts _ _ _ h7
    cases h8
    obtain ⟨o1, o2⟩ := out_laid ns A hAn { laidN 6 (A.length - 1) with n := n, s := s } _ (laid_out ns A hAn 6 (fun m => { m with n := n, s := s }) (fun _ => rfl) (fun n m h l => by have := h l; simp only [Np.mk.injEq] at this ⊢; simp [this]))
    exact ⟨_, o1, o2, top_qq hA (num_in hT h3) (name_wd hT h7).1, by rw [wlen_one hA.ah hAn (by show (2 : Int) ≤ 6 ∧ (6 : Int) ≤ 8; decide) rfl (T := [Lib.itoa n, wBy, s]) (fun p => rfl)]; simp; omega, by omega⟩
  · obtain ⟨r1, i2, h3, h4⟩ := and_ok h2
    obtain ⟨e, R, he, rfl, hR, hl⟩ := br_rt hD h3
    subst he
    cases h4
    refine ⟨A ++ sh A.length R ++ [two 7 A.length R.length], ?_, ?_, join_qq (.inl rfl) hA hR, ?_, by omega⟩
    · rw [← (out_step ns A R _ hAn).1, two_out 7 ns A R hAn hR.ne, out_out]
    · rw [← (out_step ns A R (two 7 A.length R.length) hAn).2, out_out]
    · rw [wlen_two hA.ah hR.ah hAn hR.ne (.inr (.inl rfl)), if_neg (by decide)]; omega
  · obtain ⟨r1, i2, h3, h4⟩ := and_ok h2
    obtain ⟨e, R, he, rfl, hR, hl⟩ := br_rt hD h3
    subst he
    cases h4
    refine ⟨A ++ sh A.length R ++ [two 8 A.length R.length], ?_, ?_, join_qq (.inr rfl) hA hR, ?_, by omega⟩
    · rw [← (out_step ns A R _ hAn).1, two_out 8 ns A R hAn hR.ne, out_out]
    · rw [← (out_step ns A R (two 8 A.length R.length) hAn).2, out_out]
    · rw [wlen_two hA.ah hR.ah hAn hR.ne (.inr (.inr rfl)), if_neg (by decide)]; omega
theorem steps_loop {ts : List Tp} (hT : TokOk ts) {d i0 : Nat} (hD : ∀ e, d = e + 1 → QueryR ts e) : ∀ (f : Nat) (ns A : List Np) (q : Nat) (r : Nat × List Np) (j : Nat), QQ d A → i0 + (wq A).length ≤ q → stepsL ts (stepD ts d) f (Out ns A).1 q (Out ns A).2 = .ok r j → ∃ new, r = Out ns new ∧ QQ d new ∧ i0 + (wq new).length ≤ j
  | 0, ns, A, q, r, j, hA, hq, h => by unfold stepsL at h; cases h; exact ⟨A, rfl, hA, hq⟩
  | f + 1, ns, A, q, r, j, hA, hq, h => by
    unfold stepsL at h
    split at h
    · obtain ⟨r1, i1, h1, h2⟩ := and_ok h
      obtain ⟨new, o1, o2, hn, hl, hle⟩ := step_rt hT hD hA h1
      rw [o1, o2] at h2
      exact steps_loop hT hD f ns new i1 r j hn (by omega) h2
    · cases h; exact ⟨A, rfl, hA, hq⟩
theorem query_rt {ts : List Tp} (hT : TokOk ts) : ∀ d, QueryR ts d
  | 0 => fun i ns r j h => by
    rw [queryS_eq] at h
    obtain ⟨n, i1, h1, h2⟩ := and_ok h
    obtain ⟨hn, hl⟩ := fetch_n hT h1
    have hln : n.l = [] := by rw [hn.1]; rfl
    have e := out_one ns hln
    refine steps_loop (d := 0) hT (fun e h => by cases h) _ ns [n] i1 r j (fetch_qq 0 hn) ?_ (by rw [e]; exact h2)
    have hw : wq [n] = fetchW n := by
      have := (wq_last [] n).1
      rw [List.nil_append] at this
      rw [this]; unfold nodeX; rw [if_pos (by rw [hn.1])]
    rw [hw]; exact hl
  | d + 1 => fun i ns r j h => by
    rw [queryS_eq] at h
    obtain ⟨n, i1, h1, h2⟩ := and_ok h
    obtain ⟨hn, hl⟩ := fetch_n hT h1
    have hln : n.l = [] := by rw [hn.1]; rfl
    have e := out_one ns hln
    refine steps_loop (d := d + 1) hT (fun e h => by cases h; exact query_rt hT d) _ ns [n] i1 r j (fetch_qq (d + 1) hn) ?_ (by rw [e]; exact h2)
    have hw : wq [n] = fetchW n := by
      have := (wq_last [] n).1
      rw [List.nil_append] at this
      rw [this]; unfold nodeX; rw [if_pos (by rw [hn.1])]
    rw [hw]; exact hl
/- The whole. -/
theorem has_toks : ∀ (ws : List (List UInt8)) (tks : List Tk), tkS ws = some tks → tks.length = ws.length ∧ ∀ (j : Nat) (s : List UInt8), ws[j]? = some s → ∃ t, tw s = some t ∧ tks[j]? = some t
  | [], tks, h => by cases h; exact ⟨rfl, fun j s hs => by simp at hs⟩
  | s :: r, tks, h => by
    unfold tkS at h
    split at h
    · rename_i t ht
      cases e : tkS r with
      | none => rw [e] at h; cases h
      | some us =>
        rw [e] at h; cases h
        obtain ⟨h1, h2⟩ := has_toks r us e
        refine ⟨by simp [h1], fun j x hx => ?_⟩
        cases j with
        | zero => simp at hx; subst hx; exact ⟨t, by unfold tw; rw [ht], rfl⟩
        | succ j => simpa using h2 j x (by simpa using hx)
    · cases h
theorem toks_all : ∀ ws : List (List UInt8), (∀ s ∈ ws, ∃ t, tw s = some t) → ∃ tks, tkS ws = some tks
  | [], _ => ⟨[], rfl⟩
  | s :: r, h => by
    obtain ⟨tks, e⟩ := toks_all r (fun x hx => h x (by simp [hx]))
    obtain ⟨t, ht⟩ := h s (by simp)
    unfold tw at ht
    split at ht
    · rename_i u hu
      exact ⟨u :: tks, by rw [tkS_one hu, e]; rfl⟩
    · cases ht
theorem has_of {ws : List (List UInt8)} {tks : List Tk} (h : tkS ws = some tks) : Has (tks.map tp) 0 ws := by
  obtain ⟨-, h2⟩ := has_toks ws tks h
  intro j s hs
  obtain ⟨t, h3, h4⟩ := h2 j s hs
  exact ⟨t, tp t, h3, by rw [Nat.zero_add, List.getElem?_map, h4]; rfl, rfl, rfl, rfl⟩
end Go.Proofs.YtmpjmimhoikknaaGreatDoor
namespace Go.Proofs.YtmpjmimhoikknaaGreatDoor
open Go.RowKit Go.Joins

theorem St_beq (x y : List UInt8) : ((St x).toList == (St y).toList) = decide (x = y) := by
  rw [bytes_beq]
  by_cases h : x = y
  · subst h; simp
  · simp [h]; exact fun e => h (St_inj e)
theorem take_eq_step {α : Type} {l m : List α} {k : Nat} {x : α} (h : l.take k = m.take k) (hx : l[k]? = some x) (hy : m[k]? = some x) : l.take (k + 1) = m.take (k + 1) := by
  rw [List.take_add_one, List.take_add_one, h, hx, hy]
set_option maxRecDepth 100000 in
theorem eql2_agg (k : Int) (s : List UInt8) (k2 : Int) (s2 : List UInt8) (w : World) : (Op.equalIn 10000 61 (.agg #[.int .i64 k, .string (St s)]) (.agg #[.int .i64 k2, .string (St s2)])).run Tryz.prog w = .ok (decide (k = k2 ∧ s = s2)) w := by
  have u3 := Tryz.underlying3
  have a3' := Tryz.isAgg3
  have z3 := Tryz.sizeOf3
  have u9 := Tryz.underlying9
  have a9' := Tryz.isAgg9
  have z9 := Tryz.sizeOf9
  have hS : Tryz.prog.underlying 61 = some (.struct (Tryz.prog.fieldsOf 61)) := by kernel_rfl
  rw [show (10000 : Nat) = 9999 + 1 from rfl, run_equalIn_agg w 9999 61 _ _ hS Tryz.stoodInHeld61]
  simp only [Program.fieldsOf, Tryz.underlying61]
  have hb := St_beq s s2
  go_simp
  by_cases h1 : k = k2
  · by_cases h2 : s = s2 <;> simp [h1, h2]
  · by_cases h2 : s = s2 <;> simp [h1, h2]
set_option maxRecDepth 100000 in
theorem eql2_col (k : Int) (s : List UInt8) (k2 : Int) (s2 : List UInt8) (w : World) : (Op.equalIn 10000 71 (.agg #[.string (St s), .int .i64 k]) (.agg #[.string (St s2), .int .i64 k2])).run Tryz.prog w = .ok (decide (k = k2 ∧ s = s2)) w := by
  have u3 := Tryz.underlying3
  have a3' := Tryz.isAgg3
  have z3 := Tryz.sizeOf3
  have u9 := Tryz.underlying9
  have a9' := Tryz.isAgg9
  have z9 := Tryz.sizeOf9
  have hS : Tryz.prog.underlying 71 = some (.struct (Tryz.prog.fieldsOf 71)) := by kernel_rfl
  rw [show (10000 : Nat) = 9999 + 1 from rfl, run_equalIn_agg w 9999 71 _ _ hS Tryz.stoodInHeld71]
  simp only [Program.fieldsOf, Tryz.underlying71]
  have hb := St_beq s s2
  go_simp
  by_cases h1 : k = k2
  · by_cases h2 : s = s2 <;> simp [h1, h2]
  · by_cases h2 : s = s2 <;> simp [h1, h2]
abbrev cl2 (x : List UInt8 × Int) : List Value := [.string (St x.1), .int .i64 x.2]
set_option maxRecDepth 100000 in
set_option maxHeartbeats 2000000 in
theorem eqints_any {w : World} {Q1 Q2 : Nat → Prop} {a b : Value} {l m : List (Int)} (ha : SlAt Q1 int1 1 w a l) (hb : SlAt Q2 int1 1 w b m) : Calls Tryz.prog 71 #[a, b] w fun e w' => e = .returned (.bool (decide (l = m))) ∧ Below w.heap.size w w' := by
  have HA := hid ha
  have HB := hid hb
  obtain ⟨p, c, rfl, hc1, hc2⟩ := ha.form
  obtain ⟨p', c', rfl, hd1, hd2⟩ := hb.form
  unfold maxLen at hc2 hd2
  clear ha hb
  by_cases hlen : l.length = m.length
  · generalize hn : l.length = n at *
    rw [← hlen] at hd1 HB ⊢
    have HN := hid hn
    have HM := hid hlen
    clear hn hlen
    have hnn : ((n : Int) != n) = false := by simp
    go_enter Tryz.func71, Tryz.ntmps71
    go_wp2_with fail
    go_loopw [13] (fun x wr => ∃ k : Nat, k ≤ n ∧ x = .int .i64 k ∧ Hid (l.take k = m.take k) ∧ Hid (Below w.heap.size w wr)) (fun x _ => n - (intOf x).toNat)
    case atStart => exact ⟨0, by omega, rfl, rfl, Below.refl _ _⟩
    case round =>
      obtain ⟨k, hk, rfl, HT, HBr⟩ := hrel
      by_cases hlt : k < n
      · obtain ⟨x, hx⟩ : ∃ x, l[k]? = some x := ⟨l[k]'(by rw [HN.out]; omega), List.getElem?_eq_getElem _⟩
        obtain ⟨y, hy⟩ : ∃ y, m[k]? = some y := ⟨m[k]'(by rw [← HM.out]; omega), List.getElem?_eq_getElem _⟩
        obtain ⟨g, og, rfl, -, h1⟩ := (HA.out.on HBr.out).at hx
        obtain ⟨g', og', rfl, -, h2⟩ := (HB.out.on HBr.out).at hy
        have e1 : wr.cell? ⟨g, og + k, none⟩ = some (.int .i64 x) := by have := h1 0 _ rfl; simpa using this
        have e2 : wr.cell? ⟨g', og' + k, none⟩ = some (.int .i64 y) := by have := h2 0 _ rfl; simpa using this
        have kI : (k : Int) < n := by omega
        have k0 : (0 : Int) ≤ k := by omega
        have HX := hid hx
        have HY := hid hy
        clear h1 h2 hx hy
        by_cases hxy : x = y
        · subst hxy
          have e3 : (x != x) = false := by simp
          go_upto_region 6 with fail
          go_quiet (fail)
          go_wp2_with fail
          go_roundw
          case rel => exact ⟨k + 1, by omega, by go_num, take_eq_step HT.out HX.out HY.out, below_drewN HBr.out _⟩
          case measure => simp [intOf]; omega
        · have e3 : (x != y) = true := by simp [hxy]
          have HE : Hid (decide (l = m) = false) := by
            show _ = _
            rw [decide_eq_false]
            intro e
            rw [e, HY.out] at HX
            exact hxy (Option.some.inj HX.out).symm
          clear hxy
          go_upto_region 6 with fail
          go_quiet (fail)
          go_wp2_with fail
          go_ret
          exact ⟨by rw [HE.out]; rfl, below_drewN HBr.out _⟩
      · have kI : ¬ (k : Int) < n := by omega
        have HE : Hid (decide (l = m) = true) := by
          have h := HT.out
          have h1 := HN.out
          have h2 := HM.out
          rw [List.take_of_length_le (by omega), List.take_of_length_le (by omega)] at h
          exact decide_eq_true h
        go_wp2_with fail
        go_ret
        exact ⟨by rw [HE.out]; rfl, HBr.out⟩
  · have hnn : ((l.length : Int) != m.length) = true := by simp; omega
    have HE : Hid (decide (l = m) = false) := decide_eq_false (fun e => hlen (congrArg List.length e))
    clear hlen
    go_enter Tryz.func71, Tryz.ntmps71
    go_wp2_with fail
    go_ret
    exact ⟨by rw [HE.out]; rfl, Below.refl _ _⟩
set_option maxRecDepth 100000 in
set_option maxHeartbeats 2000000 in
theorem eqstrs_any {w : World} {Q1 Q2 : Nat → Prop} {a b : Value} {l m : List (List UInt8)} (ha : SlAt Q1 str1 1 w a l) (hb : SlAt Q2 str1 1 w b m) : Calls Tryz.prog 72 #[a, b] w fun e w' => e = .returned (.bool (decide (l = m))) ∧ Below w.heap.size w w' := by
  have HA := hid ha
  have HB := hid hb
  obtain ⟨p, c, rfl, hc1, hc2⟩ := ha.form
  obtain ⟨p', c', rfl, hd1, hd2⟩ := hb.form
  unfold maxLen at hc2 hd2
  clear ha hb
  by_cases hlen : l.length = m.length
  · generalize hn : l.length = n at *
    rw [← hlen] at hd1 HB ⊢
    have HN := hid hn
    have HM := hid hlen
    clear hn hlen
    have hnn : ((n : Int) != n) = false := by simp
    go_enter Tryz.func72, Tryz.ntmps72
    go_wp2_with fail
    go_loopw [13] (fun x wr => ∃ k : Nat, k ≤ n ∧ x = .int .i64 k ∧ Hid (l.take k = m.take k) ∧ Hid (Below w.heap.size w wr)) (fun x _ => n - (intOf x).toNat)
    case atStart => exact ⟨0, by omega, rfl, rfl, Below.refl _ _⟩
    case round =>
      obtain ⟨k, hk, rfl, HT, HBr⟩ := hrel
      by_cases hlt : k < n
      · obtain ⟨x, hx⟩ : ∃ x, l[k]? = some x := ⟨l[k]'(by rw [HN.out]; omega), List.getElem?_eq_getElem _⟩
        obtain ⟨y, hy⟩ : ∃ y, m[k]? = some y := ⟨m[k]'(by rw [← HM.out]; omega), List.getElem?_eq_getElem _⟩
        obtain ⟨g, og, rfl, -, h1⟩ := (HA.out.on HBr.out).at hx
        obtain ⟨g', og', rfl, -, h2⟩ := (HB.out.on HBr.out).at hy
        have e1 : wr.cell? ⟨g, og + k, none⟩ = some (.string (St x)) := by have := h1 0 _ rfl; simpa using this
        have e2 : wr.cell? ⟨g', og' + k, none⟩ = some (.string (St y)) := by have := h2 0 _ rfl; simpa using this
        have kI : (k : Int) < n := by omega
        have k0 : (0 : Int) ≤ k := by omega
        have HX := hid hx
        have HY := hid hy
        clear h1 h2 hx hy
        by_cases hxy : x = y
        · subst hxy
          have e3 : ((St x).toList == (St x).toList) = true := by simp
          go_upto_region 6 with fail
          go_quiet (fail)
          go_wp2_with fail
          go_roundw
          case rel => exact ⟨k + 1, by omega, by go_num, take_eq_step HT.out HX.out HY.out, below_drewN HBr.out _⟩
          case measure => simp [intOf]; omega
        · have e3 : ((St x).toList == (St y).toList) = false := by rw [St_beq]; simp [hxy]
          have HE : Hid (decide (l = m) = false) := by
            show _ = _
            rw [decide_eq_false]
            intro e
            rw [e, HY.out] at HX
            exact hxy (Option.some.inj HX.out).symm
          clear hxy
          go_upto_region 6 with fail
          go_quiet (fail)
          go_wp2_with fail
          go_ret
          exact ⟨by rw [HE.out]; rfl, below_drewN HBr.out _⟩
      · have kI : ¬ (k : Int) < n := by omega
        have HE : Hid (decide (l = m) = true) := by
          have h := HT.out
          have h1 := HN.out
          have h2 := HM.out
          rw [List.take_of_length_le (by omega), List.take_of_length_le (by omega)] at h
          exact decide_eq_true h
        go_wp2_with fail
        go_ret
        exact ⟨by rw [HE.out]; rfl, HBr.out⟩
  · have hnn : ((l.length : Int) != m.length) = true := by simp; omega
    have HE : Hid (decide (l = m) = false) := decide_eq_false (fun e => hlen (congrArg List.length e))
    clear hlen
    go_enter Tryz.func72, Tryz.ntmps72
    go_wp2_with fail
    go_ret
    exact ⟨by rw [HE.out]; rfl, Below.refl _ _⟩
set_option maxRecDepth 100000 in
set_option maxHeartbeats 2000000 in
theorem eqaggs_any {w : World} {Q1 Q2 : Nat → Prop} {a b : Value} {l m : List (Int × List UInt8)} (ha : SlAt Q1 ag2 2 w a l) (hb : SlAt Q2 ag2 2 w b m) : Calls Tryz.prog 73 #[a, b] w fun e w' => e = .returned (.bool (decide (l = m))) ∧ Below w.heap.size w w' := by
  have HA := hid ha
  have HB := hid hb
  obtain ⟨p, c, rfl, hc1, hc2⟩ := ha.form
  obtain ⟨p', c', rfl, hd1, hd2⟩ := hb.form
  unfold maxLen at hc2 hd2
  clear ha hb
  by_cases hlen : l.length = m.length
  · generalize hn : l.length = n at *
    rw [← hlen] at hd1 HB ⊢
    have HN := hid hn
    have HM := hid hlen
    clear hn hlen
    have hnn : ((n : Int) != n) = false := by simp
    go_enter Tryz.func73, Tryz.ntmps73
    go_wp2_with fail
    go_loopw [13] (fun x wr => ∃ k : Nat, k ≤ n ∧ x = .int .i64 k ∧ Hid (l.take k = m.take k) ∧ Hid (Below w.heap.size w wr)) (fun x _ => n - (intOf x).toNat)
    case atStart => exact ⟨0, by omega, rfl, rfl, Below.refl _ _⟩
    case round =>
      obtain ⟨k, hk, rfl, HT, HBr⟩ := hrel
      by_cases hlt : k < n
      · obtain ⟨x, hx⟩ : ∃ x, l[k]? = some x := ⟨l[k]'(by rw [HN.out]; omega), List.getElem?_eq_getElem _⟩
        obtain ⟨y, hy⟩ : ∃ y, m[k]? = some y := ⟨m[k]'(by rw [← HM.out]; omega), List.getElem?_eq_getElem _⟩
        obtain ⟨g, og, rfl, -, h1⟩ := (HA.out.on HBr.out).at hx
        obtain ⟨g', og', rfl, -, h2⟩ := (HB.out.on HBr.out).at hy
        have e1 : wr.cell? ⟨g, og + k * 2, none⟩ = some (.int .i64 x.1) := h1 0 _ rfl
        have e2 : wr.cell? ⟨g', og' + k * 2, none⟩ = some (.int .i64 y.1) := h2 0 _ rfl
        have e4 : wr.cell? ⟨g, og + k * 2 + 1, none⟩ = some (.string (St x.2)) := h1 1 _ rfl
        have e5 : wr.cell? ⟨g', og' + k * 2 + 1, none⟩ = some (.string (St y.2)) := h2 1 _ rfl
        have kI : (k : Int) < n := by omega
        have k0 : (0 : Int) ≤ k := by omega
        have HX := hid hx
        have HY := hid hy
        clear h1 h2 hx hy
        by_cases hxy : x = y
        · subst hxy
          have e3 : ∀ w, (Op.equalIn 10000 61 (.agg #[.int .i64 x.1, .string (St x.2)]) (.agg #[.int .i64 x.1, .string (St x.2)])).run Tryz.prog w = .ok true w := fun w => by rw [eql2_agg]; simp
          go_upto_region 6 with fail
          go_quiet (fail)
          go_wp2_with fail
          go_roundw
          case rel => exact ⟨k + 1, by omega, by go_num, take_eq_step HT.out HX.out HY.out, below_drewN HBr.out _⟩
          case measure => simp [intOf]; omega
        · have e3 : ∀ w, (Op.equalIn 10000 61 (.agg #[.int .i64 x.1, .string (St x.2)]) (.agg #[.int .i64 y.1, .string (St y.2)])).run Tryz.prog w = .ok false w := fun w => by rw [eql2_agg]; simp; intro h; intro h2; exact hxy (Prod.ext h h2)
          have HE : Hid (decide (l = m) = false) := by
            show _ = _
            rw [decide_eq_false]
            intro e
            rw [e, HY.out] at HX
            exact hxy (Option.some.inj HX.out).symm
          clear hxy
          go_upto_region 6 with fail
          go_quiet (fail)
          go_wp2_with fail
          go_ret
          exact ⟨by rw [HE.out]; rfl, below_drewN HBr.out _⟩
      · have kI : ¬ (k : Int) < n := by omega
        have HE : Hid (decide (l = m) = true) := by
          have h := HT.out
          have h1 := HN.out
          have h2 := HM.out
          rw [List.take_of_length_le (by omega), List.take_of_length_le (by omega)] at h
          exact decide_eq_true h
        go_wp2_with fail
        go_ret
        exact ⟨by rw [HE.out]; rfl, HBr.out⟩
  · have hnn : ((l.length : Int) != m.length) = true := by simp; omega
    have HE : Hid (decide (l = m) = false) := decide_eq_false (fun e => hlen (congrArg List.length e))
    clear hlen
    go_enter Tryz.func73, Tryz.ntmps73
    go_wp2_with fail
    go_ret
    exact ⟨by rw [HE.out]; rfl, Below.refl _ _⟩
set_option maxRecDepth 100000 in
set_option maxHeartbeats 2000000 in
theorem eqcols_any {w : World} {Q1 Q2 : Nat → Prop} {a b : Value} {l m : List (List UInt8 × Int)} (ha : SlAt Q1 cl2 2 w a l) (hb : SlAt Q2 cl2 2 w b m) : Calls Tryz.prog 133 #[a, b] w fun e w' => e = .returned (.bool (decide (l = m))) ∧ Below w.heap.size w w' := by
  have HA := hid ha
  have HB := hid hb
  obtain ⟨p, c, rfl, hc1, hc2⟩ := ha.form
  obtain ⟨p', c', rfl, hd1, hd2⟩ := hb.form
  unfold maxLen at hc2 hd2
  clear ha hb
  by_cases hlen : l.length = m.length
  · generalize hn : l.length = n at *
    rw [← hlen] at hd1 HB ⊢
    have HN := hid hn
    have HM := hid hlen
    clear hn hlen
    have hnn : ((n : Int) != n) = false := by simp
    go_enter Tryz.func133, Tryz.ntmps133
    go_wp2_with fail
    go_loopw [13] (fun x wr => ∃ k : Nat, k ≤ n ∧ x = .int .i64 k ∧ Hid (l.take k = m.take k) ∧ Hid (Below w.heap.size w wr)) (fun x _ => n - (intOf x).toNat)
    case atStart => exact ⟨0, by omega, rfl, rfl, Below.refl _ _⟩
    case round =>
      obtain ⟨k, hk, rfl, HT, HBr⟩ := hrel
      by_cases hlt : k < n
      · obtain ⟨x, hx⟩ : ∃ x, l[k]? = some x := ⟨l[k]'(by rw [HN.out]; omega), List.getElem?_eq_getElem _⟩
        obtain ⟨y, hy⟩ : ∃ y, m[k]? = some y := ⟨m[k]'(by rw [← HM.out]; omega), List.getElem?_eq_getElem _⟩
        obtain ⟨g, og, rfl, -, h1⟩ := (HA.out.on HBr.out).at hx
        obtain ⟨g', og', rfl, -, h2⟩ := (HB.out.on HBr.out).at hy
        have e1 : wr.cell? ⟨g, og + k * 2, none⟩ = some (.string (St x.1)) := h1 0 _ rfl
        have e2 : wr.cell? ⟨g', og' + k * 2, none⟩ = some (.string (St y.1)) := h2 0 _ rfl
        have e4 : wr.cell? ⟨g, og + k * 2 + 1, none⟩ = some (.int .i64 x.2) := h1 1 _ rfl
        have e5 : wr.cell? ⟨g', og' + k * 2 + 1, none⟩ = some (.int .i64 y.2) := h2 1 _ rfl
        have kI : (k : Int) < n := by omega
        have k0 : (0 : Int) ≤ k := by omega
        have HX := hid hx
        have HY := hid hy
        clear h1 h2 hx hy
        by_cases hxy : x = y
        · subst hxy
          have e3 : ∀ w, (Op.equalIn 10000 71 (.agg #[.string (St x.1), .int .i64 x.2]) (.agg #[.string (St x.1), .int .i64 x.2])).run Tryz.prog w = .ok true w := fun w => by rw [eql2_col]; simp
          go_upto_region 6 with fail
          go_quiet (fail)
          go_wp2_with fail
          go_roundw
          case rel => exact ⟨k + 1, by omega, by go_num, take_eq_step HT.out HX.out HY.out, below_drewN HBr.out _⟩
          case measure => simp [intOf]; omega
        · have e3 : ∀ w, (Op.equalIn 10000 71 (.agg #[.string (St x.1), .int .i64 x.2]) (.agg #[.string (St y.1), .int .i64 y.2])).run Tryz.prog w = .ok false w := fun w => by rw [eql2_col]; simp; intro h; intro h2; exact hxy (Prod.ext h2 h)
          have HE : Hid (decide (l = m) = false) := by
            show _ = _
            rw [decide_eq_false]
            intro e
            rw [e, HY.out] at HX
            exact hxy (Option.some.inj HX.out).symm
          clear hxy
          go_upto_region 6 with fail
          go_quiet (fail)
          go_wp2_with fail
          go_ret
          exact ⟨by rw [HE.out]; rfl, below_drewN HBr.out _⟩
      · have kI : ¬ (k : Int) < n := by omega
        have HE : Hid (decide (l = m) = true) := by
          have h := HT.out
          have h1 := HN.out
          have h2 := HM.out
          rw [List.take_of_length_le (by omega), List.take_of_length_le (by omega)] at h
          exact decide_eq_true h
        go_wp2_with fail
        go_ret
        exact ⟨by rw [HE.out]; rfl, HBr.out⟩
  · have hnn : ((l.length : Int) != m.length) = true := by simp; omega
    have HE : Hid (decide (l = m) = false) := decide_eq_false (fun e => hlen (congrArg List.length e))
    clear hlen
    go_enter Tryz.func133, Tryz.ntmps133
    go_wp2_with fail
    go_ret
    exact ⟨by rw [HE.out]; rfl, Below.refl _ _⟩
end Go.Proofs.YtmpjmimhoikknaaGreatDoor
namespace Go.Proofs.YtmpjmimhoikknaaGreatDoor
open Go.RowKit Go.Joins Go.Sort

abbrev PlV (k n f t : Int) (s : ByteArray) (vk vn : Int) (vs : ByteArray) (a0 a1 a2 a3 a4 a5 a6 a7 : Int) : Value := .agg #[.int .i64 k, .int .i64 n, .int .i64 f, .int .i64 t, .string s, .int .i64 vk, .int .i64 vn, .string vs, .int .i64 a0, .int .i64 a1, .int .i64 a2, .int .i64 a3, .int .i64 a4, .int .i64 a5, .int .i64 a6, .int .i64 a7]
def eqP (k n f t : Int) (s : ByteArray) (k' n' f' t' : Int) (s' : ByteArray) (ev : Bool) : Bool := decide (k = k' ∧ n = n' ∧ f = f' ∧ t = t' ∧ s = s') && ev
set_option maxRecDepth 100000 in
set_option maxHeartbeats 1000000 in
theorem eql_plain (k n f t : Int) (s : ByteArray) (vk vn : Int) (vs : ByteArray) (a0 a1 a2 a3 a4 a5 a6 a7 : Int) (k' n' f' t' : Int) (s' : ByteArray) (vk' vn' : Int) (vs' : ByteArray) (b0 b1 b2 b3 b4 b5 b6 b7 : Int) (w : World) :
    (Op.equalIn 10000 120 (PlV k n f t s vk vn vs a0 a1 a2 a3 a4 a5 a6 a7) (PlV k' n' f' t' s' vk' vn' vs' b0 b1 b2 b3 b4 b5 b6 b7)).run Tryz.prog w = .ok (eqP k n f t s k' n' f' t' s' (eqV vk vn vs a0 a1 a2 a3 a4 a5 a6 a7 vk' vn' vs' b0 b1 b2 b3 b4 b5 b6 b7)) w := by
  have u3 := Tryz.underlying3
  have a3' := Tryz.isAgg3
  have z3 := Tryz.sizeOf3
  have u9 := Tryz.underlying9
  have a9' := Tryz.isAgg9
  have z9 := Tryz.sizeOf9
  have aV := Tryz.isAgg39
  have zV := Tryz.sizeOf39
  have hS : Tryz.prog.underlying 120 = some (.struct (Tryz.prog.fieldsOf 120)) := by kernel_rfl
  have eV := equalIn24 vk vn vs a0 a1 a2 a3 a4 a5 a6 a7 vk' vn' vs' b0 b1 b2 b3 b4 b5 b6 b7 9996
  rw [show (10000 : Nat) = 9999 + 1 from rfl, run_equalIn_agg w 9999 120 _ _ hS Tryz.stoodInHeld120]
  simp only [Program.fieldsOf, Tryz.underlying120]
  have hb := bytes_beq s s'
  go_simp
  unfold eqP
  by_cases h0 : k = k'
  · by_cases h1 : n = n'
    · by_cases h2 : f = f'
      · by_cases h3 : t = t'
        · by_cases h4 : s = s'
          · cases eqV vk vn vs a0 a1 a2 a3 a4 a5 a6 a7 vk' vn' vs' b0 b1 b2 b3 b4 b5 b6 b7 <;> simp [h0, h1, h2, h3, h4]
          · simp [h0, h1, h2, h3, h4]
        · simp [h0, h1, h2, h3]
      · simp [h0, h1, h2]
    · simp [h0, h1]
  · simp [h0]
abbrev zPl : Array Value := #[.int .i64 0, .int .i64 0, .int .i64 0, .int .i64 0, .string ⟨#[]⟩, .int .i64 0, .int .i64 0, .string ⟨#[]⟩, .int .i64 0, .int .i64 0, .int .i64 0, .int .i64 0, .int .i64 0, .int .i64 0, .int .i64 0, .int .i64 0]
theorem size_plain : (Tryz.prog.info? 120).map (·.size) = some 16 := by kernel_rfl
def plV (q : Nx) : Value := PlV q.np.kind q.np.n q.np.from_ q.np.to_ (St q.np.s) q.np.vk q.np.vn (St q.np.vs) q.h0 q.h1 q.h2 q.h3 q.h4 q.h5 q.h6 q.h7
section
variable {w : World} {q a b : Nx}
set_option maxRecDepth 100000 in
set_option maxHeartbeats 2000000 in
theorem plain_any : Calls Tryz.prog 70 #[.agg q.cells.toArray] w fun e w' => e = .returned (plV q) ∧ Below w.heap.size w w' := by
  have h0 := (Kp.alloc (fun _ => False) (w.alloc (.cells q.cells.toArray 44)) (.cells zPl 120)).blk (alloc_block w (.cells q.cells.toArray 44)) id
  have hz := alloc_block (w.alloc (.cells q.cells.toArray 44)) (.cells zPl 120)
  rw [World.size_alloc] at hz
  have HB : Hid (Below w.heap.size w ((w.alloc (.cells q.cells.toArray 44)).alloc (.cells zPl 120))) := ((Below.refl _ _).alloc (Nat.le_refl _) _).alloc (by simp) _
  generalize hW : (w.alloc (.cells q.cells.toArray 44)).alloc (.cells zPl 120) = w1 at *
  have HW := hid hW
  have hc : ∀ j v, q.cells[j]? = some v → w1.cell? ⟨w.heap.size, j, none⟩ = some v := fun j v hv => by rw [block_cell h0 j]; simpa using hv
  have c0 := hc 0 _ rfl
  have c1 := hc 1 _ rfl
  have c2 := hc 2 _ rfl
  have c3 := hc 3 _ rfl
  have c4 := hc 4 _ rfl
  have c5 := hc 5 _ rfl
  have c6 := hc 6 _ rfl
  have c7 := hc 7 _ rfl
  have c8 := hc 8 _ rfl
  have c9 := hc 9 _ rfl
  have c10 := hc 10 _ rfl
  have c11 := hc 11 _ rfl
  have c12 := hc 12 _ rfl
  have c13 := hc 13 _ rfl
  have c14 := hc 14 _ rfl
  have c15 := hc 15 _ rfl
  have HZ := hid hz
  clear hW hc h0 hz
  go_enter Tryz.func70, Tryz.ntmps70
  go_upto_region 1 with fail
  rw [HW.out]
  go_wp2_with (refine wpList_store_row rfl 120 _ _ rfl rfl rfl HZ.out size_plain rfl (by simp [Value.oneCell']) ?_; intro w4 h4 k4 _; have H4 := hid h4; have K4 := hid k4; clear h4 k4)
  have k9 := block_cell H4.out
  refine bodyPost_ret (v := plV q) (by simp [results, Tryz.results70, go_sem, k9, plV]) rfl ?_
  exact ⟨rfl, HB.out.trans (K4.out.below (by have := HB.out.size; omega) (fun k e => by omega))⟩
end
end Go.Proofs.YtmpjmimhoikknaaGreatDoor
