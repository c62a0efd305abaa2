/-
  The words of conditions are read as these conditions.
  What is read of a text's tokens is a condition whose words are read as it.
-/
import Derived.Test.YtmpjmimhoikknaaGreatDoorK25
namespace Go.Proofs.YtmpjmimhoikknaaGreatDoor

/- A tree's nodes laid behind others. -/
def Out (ns new : List Np) : Nat × List Np := (ns.length + new.length - 1, ns ++ sh ns.length new)
theorem Out.len (ns new : List Np) : (Out ns new).2.length = ns.length + new.length := by simp [Out, sh_len]
/- A chain's reading, as far as it has come. -/
inductive Rch (ts : List Tp) (x : List UInt8) (kind : Int) (P : PN) (p : Nat) (ns : List Np) : Nat → Nat → Nat → List Np → Prop
  | first (a q : Nat) (ns' : List Np) (h : P p ns = .ok (a, ns') q) : Rch ts x kind P p ns ts.length a q ns'
  | step (f a q : Nat) (ns' : List Np) (r : Nat × List Np) (j : Nat) (h : Rch ts x kind P p ns (f + 1) a q ns') (hw : isW ts q x = true) (hr : P (q + 1) ns' = .ok r j) (hj : q + 1 ≤ j) : Rch ts x kind P p ns f r.2.length j (r.2 ++ [{ n0 with kind := kind, l := [(a : Int), (r.1 : Int)] }])
theorem Rch.eq {ts : List Tp} {x : List UInt8} {kind : Int} {P : PN} {p : Nat} {ns : List Np} {f a q : Nat} {ns' : List Np} (h : Rch ts x kind P p ns f a q ns') : chainS ts x kind P p ns = chainL ts x kind P f a q ns' := by
  induction h with
  | first a q ns' h => unfold chainS; rw [h]; rfl
  | step f a q ns' r j h hw hr hj ih =>
    rw [ih]
    conv => lhs; unfold chainL
    rw [hw, if_pos rfl, hr]; rfl
theorem Rch.fuel {ts : List Tp} {x : List UInt8} {kind : Int} {P : PN} {p : Nat} {ns : List Np} {f a q : Nat} {ns' : List Np} (h : Rch ts x kind P p ns f a q ns') : ts.length ≤ f + q := by
  induction h with
  | first a q ns' h => omega
  | step f a q ns' r j h hw hr hj ih => omega
theorem Rch.mo {ts : List Tp} {x : List UInt8} {kind : Int} {P P' : PN} (hm : Mo P P') {p : Nat} {ns : List Np} {f a q : Nat} {ns' : List Np} (h : Rch ts x kind P p ns f a q ns') : Rch ts x kind P' p ns f a q ns' := by
  induction h with
  | first a q ns' h => exact .first a q ns' (hm _ _ _ _ h)
  | step f a q ns' r j h hw hr hj ih => exact .step f a q ns' r j ih hw (hm _ _ _ _ hr) hj
theorem Rch.stop {ts : List Tp} {x : List UInt8} {kind : Int} {P : PN} {p : Nat} {ns : List Np} {f a q : Nat} {ns' : List Np} (h : Rch ts x kind P p ns f a q ns') (hw : isW ts q x = false) : chainS ts x kind P p ns = .ok (a, ns') q := by rw [h.eq, chain_stop hw]
def C3 (d : Nat) (new : List Np) : Prop := ∀ (ts : List Tp) (p : Nat) (ns : List Np), Has ts p (bdr new 3) → notS ts d p ns = .ok (Out ns new) (p + (bdr new 3).length)
def C2 (d : Nat) (new : List Np) : Prop := ∀ (ts : List Tp) (p : Nat) (ns : List Np), Has ts p (bdr new 2) → ∃ f, Rch ts wAnd 11 (notS ts d) p ns f (Out ns new).1 (p + (bdr new 2).length) (Out ns new).2
def C1 (d : Nat) (new : List Np) : Prop := ∀ (ts : List Tp) (p : Nat) (ns : List Np), Has ts p (wq new) → isW ts (p + (wq new).length) wAnd = false → ∃ f, Rch ts wOr 12 (bothB ts (notS ts d)) p ns f (Out ns new).1 (p + (wq new).length) (Out ns new).2
theorem C3.mo {d : Nat} {new : List Np} (h : C3 d new) : C3 (d + 1) new := fun ts p ns hh => not_mo ts d _ _ _ _ (h ts p ns hh)
theorem C2.mo {d : Nat} {new : List Np} (h : C2 d new) : C2 (d + 1) new := fun ts p ns hh => let ⟨f, hf⟩ := h ts p ns hh; ⟨f, hf.mo (not_mo ts d)⟩
theorem C1.mo {d : Nat} {new : List Np} (h : C1 d new) : C1 (d + 1) new := fun ts p ns hh hn => let ⟨f, hf⟩ := h ts p ns hh hn; ⟨f, hf.mo (chain_mo (not_mo ts d))⟩
/- How tight. -/
theorem bdr_1 (new : List Np) : bdr new 1 = wq new := by
  unfold bdr
  rw [if_neg]
  unfold bindsN; split
  · omega
  · split <;> omega
theorem bdr_23 {new : List Np} (h : rk new ≠ 11) : bdr new 2 = bdr new 3 := by
  unfold bdr bindsN
  by_cases h12 : rk new = 12
  · simp [h12]
  · simp [h12, h]
theorem bdr_12 {new : List Np} (h : rk new ≠ 12) : bdr new 2 = wq new := by
  unfold bdr bindsN
  by_cases h11 : rk new = 11
  · simp [h11]
  · simp [h11, h]
theorem bdr_w {new : List Np} (h : rk new ≠ 11) (h2 : rk new ≠ 12) : bdr new 3 = wq new := by
  unfold bdr bindsN
  simp [h, h2]
theorem bdr_b {new : List Np} (h : rk new = 11 ∨ rk new = 12) : bdr new 3 = inB (wq new) := by
  unfold bdr bindsN
  rcases h with h | h <;> simp [h]
theorem C3.c2 {d : Nat} {new : List Np} (h : C3 d new) (hk : rk new ≠ 11) : C2 d new := fun ts p ns hh => by
  rw [bdr_23 hk] at hh ⊢
  exact ⟨ts.length, .first _ _ _ (h ts p ns hh)⟩
theorem C2.c1 {d : Nat} {new : List Np} (h : C2 d new) (hk : rk new ≠ 12) : C1 d new := fun ts p ns hh hn => by
  rw [← bdr_12 hk] at hh hn ⊢
  obtain ⟨f, hf⟩ := h ts p ns hh
  exact ⟨ts.length, .first _ _ _ (hf.stop hn)⟩
/- Words of what is put together. -/
theorem wq_last (M : List Np) (nd : Np) : wq (M ++ [nd]) = nodeX ((M ++ [nd]).map xN) (wd ((M ++ [nd]).map xN) M.length) nd (vtN nd) ∧ rk (M ++ [nd]) = nd.kind := by
  have e : ((M ++ [nd]).map xN)[M.length]? = some (xN nd) := by simp
  have hl : (M ++ [nd]).length = M.length + 1 := by simp
  unfold wq rk kindAt
  rw [hl, Nat.add_sub_cancel, e]
  exact ⟨wd_some e, rfl⟩
theorem ahn_nil : AhN [] := fun i x h => by simp at h
theorem AhN.snoc {M : List Np} {nd : Np} (h : AhN M) (h1 : (nd.l.length : Int) = belowN nd.kind) (h2 : ∀ e ∈ nd.l, 0 ≤ e ∧ e < (M.length : Int)) : AhN (M ++ [nd]) := by
  intro i x hx
  rw [List.map_append] at hx
  rcases Nat.lt_or_ge i M.length with hi | hi
  · rw [List.getElem?_append_left (by simpa using hi)] at hx
    exact h i x hx
  · rw [List.getElem?_append_right (by simpa using hi)] at hx
    cases e : i - (M.map xN).length with
    | zero =>
      rw [e] at hx; simp at hx; subst hx
      rw [List.length_map] at e
      have : i = M.length := by omega
      subst this
      exact ⟨h1, h2⟩
    | succ n => rw [e] at hx; simp at hx
theorem AhN.app {A R : List Np} (h : AhN A) (hR : AhN R) : AhN (A ++ sh A.length R) := by
  intro i x hx
  rw [List.map_append] at hx
  rcases Nat.lt_or_ge i A.length with hi | hi
  · rw [List.getElem?_append_left (by simpa using hi)] at hx
    exact h i x hx
  · rw [List.getElem?_append_right (by simpa using hi), List.length_map, List.getElem?_map] at hx
    unfold sh at hx
    rw [List.getElem?_map] at hx
    cases e : R[i - A.length]? with
    | none => rw [e] at hx; cases hx
    | some n =>
      rw [e] at hx; cases hx
      obtain ⟨g1, g2⟩ := hR (i - A.length) (xN n) (by rw [List.getElem?_map, e]; rfl)
      refine ⟨by simpa [shN, xN] using g1, fun y hy => ?_⟩
      simp only [xN, shN, List.mem_map] at hy
      obtain ⟨z, hz, rfl⟩ := hy
      have := g2 z hz
      omega
/- Each word is one token. -/
def AllT (ws : List (List UInt8)) : Prop := ∀ s ∈ ws, ∃ t, tw s = some t
theorem AllT.app {a b : List (List UInt8)} (h1 : AllT a) (h2 : AllT b) : AllT (a ++ b) := fun s hs => (List.mem_append.1 hs).elim (h1 s) (h2 s)
theorem AllT.cons {x : List UInt8} {r : List (List UInt8)} {t : Tk} (h1 : tw x = some t) (h2 : AllT r) : AllT (x :: r) := fun s hs => (List.mem_cons.1 hs).elim (fun e => by subst e; exact ⟨t, h1⟩) (h2 s)
theorem allT_nil : AllT [] := fun s hs => by cases hs
theorem AllT.inB {a : List (List UInt8)} (h : AllT a) : AllT (inB a) := AllT.app (AllT.cons tw_open h) (AllT.cons tw_shut allT_nil)
theorem AllT.bdr {new : List Np} (h : AllT (wq new)) (k : Int) : AllT (bdr new k) := by
  unfold Go.Proofs.YtmpjmimhoikknaaGreatDoor.bdr
  split
  · exact h.inB
  · exact h
/- Numbers and texts as a text can hold them. -/
structure NOk (m : Np) : Prop where
  n : In64 m.n
  f : In64 m.from_
  t : In64 m.to_
  v : In64 m.vn
  vs : m.vs.length ≤ 64
  s : m.s.length ≤ 2048
  nm : m.names.length ≤ 1024 ∧ ∀ x ∈ m.names, x.length ≤ 2048
  ag : m.aggs.length ≤ 1024 ∧ ∀ a ∈ m.aggs, a.2.length ≤ 2048
theorem in64_0 : In64 0 := by unfold In64; decide
theorem nok_n0 (k : Int) (l : List Int) : NOk { n0 with kind := k, l := l } := ⟨in64_0, in64_0, in64_0, in64_0, by show 0 ≤ 64; omega, by show 0 ≤ 2048; omega, ⟨by show 0 ≤ 1024; omega, fun x hx => by cases hx⟩, ⟨by show 0 ≤ 1024; omega, fun x hx => by cases hx⟩⟩
theorem NOk.sh {n : Np} (h : NOk n) (k : Nat) : NOk (shN k n) := ⟨h.n, h.f, h.t, h.v, h.vs, h.s, h.nm, h.ag⟩
theorem nok_sh {l : List Np} (h : ∀ n ∈ l, NOk n) (k : Nat) : ∀ n ∈ sh k l, NOk n := fun n hn => by
  obtain ⟨m, hm, rfl⟩ := List.mem_map.1 hn
  exact (h m hm).sh k
theorem nok_app {a b : List Np} (h1 : ∀ n ∈ a, NOk n) (h2 : ∀ n ∈ b, NOk n) : ∀ n ∈ a ++ b, NOk n := fun n hn => (List.mem_append.1 hn).elim (h1 n) (h2 n)
theorem nok_one {n : Np} (h : NOk n) : ∀ m ∈ [n], NOk m := fun m hm => by simp at hm; subst hm; exact h
theorem tw_small {x : List UInt8} {t : Tk} (h : tw x = some t) : x.length ≤ 2048 := by
  apply Classical.byContradiction
  intro hc
  unfold tw at h
  rw [lexO_long (by omega)] at h
  cases h
structure Cd (new : List Np) : Prop where
  ne : 0 < new.length
  ah : AhN new
  cn : isCnd (rk new)
  tw : AllT (wq new)
  nok : ∀ n ∈ new, NOk n
def andN (k : Int) (a r : Nat) : Np := { n0 with kind := k, l := [((a - 1 : Nat) : Int), ((a + r - 1 : Nat) : Int)] }
def join2 (k : Int) (A R : List Np) : List Np := A ++ sh A.length R ++ [andN k A.length R.length]
theorem join2_rk (k : Int) (A R : List Np) : rk (join2 k A R) = k := (wq_last (A ++ sh A.length R) _).2
theorem join2_words {k : Int} (hk : k = 11 ∨ k = 12) {A R : List Np} (hA : Cd A) (hR : Cd R) : wq (join2 k A R) = bdr A (bindsN k) ++ [kindL.getD k.toNat []] ++ bdr R (bindsN k + 1) := by
  have hn := hA.ne
  have hr := hR.ne
  rw [show join2 k A R = (A ++ sh A.length R) ++ [andN k A.length R.length] from rfl, (wq_last _ _).1]
  have hkd : (andN k A.length R.length).kind = k := rfl
  unfold nodeX
  rw [hkd, if_neg (by rcases hk with rfl | rfl <;> decide), if_pos (by rcases hk with rfl | rfl <;> decide)]
  unfold condX
  rw [hkd, if_pos hk]
  have e0 : lAt (andN k A.length R.length) 0 = 0 + A.length - 1 := by simp [lAt, andN]
  have e1 : lAt (andN k A.length R.length) 1 = A.length + R.length - 1 := by simp [lAt, andN]
  rw [e0, e1, bdW_seg (pre := A) (post := [andN k A.length R.length]) rfl hR.ah hr (by rw [List.length_append, sh_len]; omega)]
  have h0 := bdW_seg (k := 0) (pre := []) (post := sh A.length R ++ [andN k A.length R.length]) rfl hA.ah hn (d := (A ++ sh A.length R).length) (by rw [List.length_append, sh_len]; omega) (bindsN k)
  rw [List.nil_append, sh_zero, ← List.append_assoc] at h0
  rw [h0]
theorem join2_cd {k : Int} (hk : k = 11 ∨ k = 12) {A R : List Np} (hA : Cd A) (hR : Cd R) : Cd (join2 k A R) := by
  refine ⟨by unfold join2; simp only [List.length_append, List.length_cons]; omega, (hA.ah.app hR.ah).snoc ?_ ?_, ?_, ?_, nok_app (nok_app hA.nok (nok_sh hR.nok _)) (nok_one (nok_n0 _ _))⟩
  · rcases hk with rfl | rfl <;> rfl
  · have := hA.ne; have := hR.ne
    intro e he
    simp only [andN, List.mem_cons, List.not_mem_nil, or_false] at he
    rw [List.length_append, sh_len]
    rcases he with rfl | rfl <;> omega
  · rw [show join2 k A R = (A ++ sh A.length R) ++ [andN k A.length R.length] from rfl, (wq_last _ _).2]
    rcases hk with rfl | rfl
    · show isCnd 11; decide
    · show isCnd 12; decide
  · rw [join2_words hk hA hR]
    refine ((hA.tw.bdr _).app ?_).app (hR.tw.bdr _)
    rcases hk with rfl | rfl
    · exact AllT.cons tw_and allT_nil
    · exact AllT.cons tw_or allT_nil
theorem out_join (k : Int) (ns A R : List Np) (hA : 0 < A.length) (hR : 0 < R.length) : (Out (Out ns A).2 R).2 ++ [{ n0 with kind := k, l := [((Out ns A).1 : Int), ((Out (Out ns A).2 R).1 : Int)] }] = (Out ns (join2 k A R)).2 ∧ (Out (Out ns A).2 R).2.length = (Out ns (join2 k A R)).1 := by
  have hl : (ns ++ sh ns.length A).length = ns.length + A.length := by simp [sh_len]
  constructor
  · unfold Out join2
    simp only [hl, sh_app, sh_sh, List.append_assoc]
    congr 3
    simp only [sh, List.map_cons, List.map_nil, shN, andN]
    congr 2
    simp only [List.cons.injEq, and_true]
    omega
  · unfold Out join2
    simp only [hl, List.length_append, sh_len, List.length_cons, List.length_nil]
    omega
def Nn (d : Nat) (new : List Np) : Prop := Cd new ∧ C3 d new ∧ (rk new = 11 → C2 d new) ∧ (rk new = 12 → C1 d new)
def Bn2 (d : Nat) (new : List Np) : Prop := Cd new ∧ (rk new ≠ 11 → C3 d new) ∧ (rk new = 11 → C2 d new) ∧ (rk new = 12 → C1 d new)
def Qn1 (d : Nat) (new : List Np) : Prop := Cd new ∧ (rk new = 12 → C1 d new) ∧ (rk new = 11 → C2 d new) ∧ (rk new ≠ 11 → rk new ≠ 12 → C3 d new)
theorem Nn.b {d : Nat} {new : List Np} (h : Nn d new) : Bn2 d new := ⟨h.1, fun _ => h.2.1, h.2.2.1, h.2.2.2⟩
theorem Bn2.c2 {d : Nat} {new : List Np} (h : Bn2 d new) : C2 d new := by
  by_cases e : rk new = 11
  · exact h.2.2.1 e
  · exact (h.2.1 e).c2 e
theorem Bn2.q {d : Nat} {new : List Np} (h : Bn2 d new) : Qn1 d new := ⟨h.1, h.2.2.2, h.2.2.1, fun e _ => h.2.1 e⟩
theorem Qn1.c1 {d : Nat} {new : List Np} (h : Qn1 d new) : C1 d new := by
  by_cases e : rk new = 12
  · exact h.2.1 e
  · by_cases e2 : rk new = 11
    · exact (h.2.2.1 e2).c1 e
    · exact ((h.2.2.2 e2 e).c2 e2).c1 e
theorem and_step {d : Nat} {A R : List Np} (hA : Bn2 d A) (hR : Nn d R) : Bn2 d (join2 11 A R) := by
  refine ⟨join2_cd (.inl rfl) hA.1 hR.1, fun e => absurd (join2_rk 11 A R) e, fun _ => ?_, fun e => by rw [join2_rk] at e; cases e⟩
  intro ts p ns hh
  rw [bdr_12 (by rw [join2_rk]; decide), join2_words (.inl rfl) hA.1 hR.1] at hh ⊢
  have e2 : bindsN 11 = 2 := rfl
  rw [e2] at hh ⊢
  obtain ⟨f, hf⟩ := hA.c2 ts p ns hh.left.left
  have hw : isW ts (p + (bdr A 2).length) wAnd = true := by
    have := hh.left.right
    rw [show [kindL.getD (11 : Int).toNat []] = [wAnd] from rfl] at this
    rw [this.kw (kw_of tw_and (.inl rfl))]; simp
  have hlt := isW_lt hw
  have hfu := hf.fuel
  obtain ⟨f', rfl⟩ : ∃ f', f = f' + 1 := ⟨f - 1, by omega⟩
  have h3 := hR.2.1 ts (p + (bdr A 2).length + 1) (Out ns A).2 (by
    have := hh.right
    rw [List.length_append] at this
    simpa [Nat.add_assoc] using this)
  have := Rch.step f' _ _ _ _ _ hf hw h3 (by omega)
  obtain ⟨g1, g2⟩ := out_join 11 ns A R hA.1.ne hR.1.ne
  rw [g1, g2] at this
  refine ⟨f', ?_⟩
  rw [show p + (bdr A 2 ++ [kindL.getD (11 : Int).toNat []] ++ bdr R (2 + 1)).length = p + (bdr A 2).length + 1 + (bdr R 3).length by simp only [List.length_append, List.length_cons, List.length_nil]; show _ = p + (bdr A 2).length + 1 + (bdr R (2 + 1)).length; omega]
  exact this
theorem or_step {d : Nat} {A R : List Np} (hA : Qn1 d A) (hR : Bn2 d R) : Qn1 d (join2 12 A R) := by
  refine ⟨join2_cd (.inr rfl) hA.1 hR.1, fun _ => ?_, (fun e => by rw [join2_rk] at e; cases e), fun _ e => absurd (join2_rk 12 A R) e⟩
  intro ts p ns hh hn
  rw [join2_words (.inr rfl) hA.1 hR.1] at hh hn ⊢
  have e2 : bindsN 12 = 1 := rfl
  rw [e2, bdr_1] at hh hn ⊢
  have h0 := hh.left.right
  rw [show [kindL.getD (12 : Int).toNat []] = [wOr] from rfl] at h0
  obtain ⟨f, hf⟩ := hA.c1 ts p ns hh.left.left (by rw [h0.kw (kw_of tw_or (.inl rfl))]; decide)
  have hw : isW ts (p + (wq A).length) wOr = true := by rw [h0.kw (kw_of tw_or (.inl rfl))]; simp
  have hlt := isW_lt hw
  have hfu := hf.fuel
  obtain ⟨f', rfl⟩ : ∃ f', f = f' + 1 := ⟨f - 1, by omega⟩
  have el : p + (wq A ++ [kindL.getD (12 : Int).toNat []] ++ bdr R (1 + 1)).length = p + (wq A).length + 1 + (bdr R 2).length := by
    simp only [List.length_append, List.length_cons, List.length_nil]; show _ = p + (wq A).length + 1 + (bdr R (1 + 1)).length; omega
  rw [el] at hn ⊢
  obtain ⟨f2, hf2⟩ := hR.c2 ts (p + (wq A).length + 1) (Out ns A).2 (by
    have := hh.right
    rw [List.length_append] at this
    simpa [Nat.add_assoc] using this)
  have h3 := hf2.stop hn
  have := Rch.step f' _ _ _ _ _ hf hw h3 (by omega)
  obtain ⟨g1, g2⟩ := out_join 12 ns A R hA.1.ne hR.1.ne
  rw [g1, g2] at this
  exact ⟨f', this⟩
/- Between brackets. -/
theorem br_step {d : Nat} {new : List Np} (h : Qn1 d new) : Nn (d + 1) new := by
  refine ⟨h.1, ?_, fun e => (h.2.2.1 e).mo, fun e => (h.2.1 e).mo⟩
  by_cases hk : rk new = 11 ∨ rk new = 12
  · intro ts p ns hh
    rw [bdr_b hk] at hh ⊢
    have h1 : Has ts p (wOpen :: (wq new ++ [wShut])) := hh
    have hs : Has ts (p + 1 + (wq new).length) [wShut] := h1.tl.right
    have hsw := hs.kw (kw_of tw_shut (.inr rfl))
    obtain ⟨f, hf⟩ := h.c1 ts (p + 1) ns h1.tl.left (by rw [hsw]; decide)
    have hc := hf.stop (by rw [hsw]; decide)
    show notB ts (some (notS ts d)) p ns = _
    unfold notB
    rw [h1.kw (kw_of tw_open (.inr rfl)), if_neg (by decide), h1.kw (kw_of tw_open (.inr rfl)), if_pos (by simp)]
    show inBr ts (some (condB ts (notS ts d))) p ns = _
    unfold inBr
    rw [h1.kw (kw_of tw_open (.inr rfl)), if_pos (by simp)]
    show (condB ts (notS ts d) (p + 1) ns).and _ = _
    rw [show condB ts (notS ts d) (p + 1) ns = chainS ts wOr 12 (bothB ts (notS ts d)) (p + 1) ns from rfl, hc]
    show (wantS ts wShut (p + 1 + (wq new).length)).and _ = _
    rw [has_want hs (kw_of tw_shut (.inr rfl))]
    show Rs.ok (Out ns new) _ = _
    congr 1
    simp [inB]; omega
  · exact (h.2.2.2 (fun e => hk (.inl e)) (fun e => hk (.inr e))).mo
/- A not. -/
def notN (r : Nat) : Np := { n0 with kind := 13, l := [((r - 1 : Nat) : Int)] }
theorem not_step {d : Nat} {R : List Np} (h : Nn d R) : Nn (d + 1) (R ++ [notN R.length]) := by
  have hn := h.1.ne
  have hrk : rk (R ++ [notN R.length]) = 13 := (wq_last _ _).2
  have hw : wq (R ++ [notN R.length]) = [wNot] ++ bdr R 3 := by
    rw [(wq_last _ _).1]
    have hkd : (notN R.length).kind = 13 := rfl
    unfold nodeX
    rw [hkd, if_neg (by decide), if_pos (by decide)]
    unfold condX
    rw [hkd, if_neg (by decide), if_pos rfl]
    have e0 : lAt (notN R.length) 0 = 0 + R.length - 1 := by simp [lAt, notN]
    rw [e0]
    have h0 := bdW_seg (k := 0) (pre := []) (post := [notN R.length]) rfl h.1.ah hn (d := R.length) (by omega) 3
    rw [List.nil_append, sh_zero] at h0
    rw [h0]
  refine ⟨⟨by simp, h.1.ah.snoc rfl ?_, by rw [hrk]; decide, by rw [hw]; exact AllT.cons tw_not (h.1.tw.bdr 3), nok_app h.1.nok (nok_one (nok_n0 _ _))⟩, ?_, (fun e => by rw [hrk] at e; cases e), fun e => by rw [hrk] at e; cases e⟩
  · intro e he
    simp only [notN, List.mem_cons, List.not_mem_nil, or_false] at he
    omega
  · intro ts p ns hh
    rw [bdr_w (by rw [hrk]; decide) (by rw [hrk]; decide), hw] at hh ⊢
    have h1 : Has ts p (wNot :: bdr R 3) := hh
    show notB ts (some (notS ts d)) p ns = _
    unfold notB
    rw [h1.kw (kw_of tw_not (.inl rfl)), if_pos (by simp)]
    show (notS ts d (p + 1) ns).and _ = _
    rw [h.2.1 ts (p + 1) ns h1.tl]
    show Rs.ok ((Out ns R).2.length, (Out ns R).2 ++ [_]) _ = _
    congr 1
    · unfold Out
      simp only [sh_app, List.length_append, sh_len, List.length_cons, List.length_nil, List.append_assoc, Prod.mk.injEq]
      refine ⟨by omega, ?_⟩
      congr 2
      simp only [sh, List.map_cons, List.map_nil, shN, notN]
      congr 2
      simp only [List.cons.injEq, and_true]
      omega
    · simp only [List.length_append, List.length_cons, List.length_nil]; omega
theorem vt_t {n : Np} (h : Vv n.vk n.vn n.vs) : ∃ t, tw (vtN n) = some t := by
  rcases h with ⟨h1, h2, h3⟩ | ⟨h1, h2, h3⟩ | ⟨h1, h2, h3⟩
  · exact ⟨_, by rw [vt_int h1 h3]; exact tw_num h2⟩
  · exact ⟨_, by rw [vt_str h1 h2 h3]; exact tw_text h3⟩
  · rw [vt_bool h1 h2 h3]
    rcases h2 with h2 | h2 <;> rw [h2]
    · exact ⟨_, tw_bools 0⟩
    · exact ⟨_, tw_bools 1⟩
theorem testW_t {n : Np} (h : TestN n) : AllT (testW n) := by
  obtain ⟨h1, -, h2⟩ := h
  unfold testW
  rcases h2 with ⟨he, hs⟩ | ⟨he, hk, hv⟩
  · rw [if_neg (by rw [he]; simp)]
    exact AllT.cons h1 (AllT.cons tw_has (AllT.cons (tw_text hs) allT_nil))
  · rw [if_pos (by rw [he])]
    obtain ⟨j, hj, hw⟩ := how_at hk
    obtain ⟨t, ht⟩ := vt_t hv
    rw [hw]
    exact AllT.cons h1 (AllT.cons (tw_hows j) (AllT.cons ht allT_nil))
theorem vv_in {k n : Int} {s : List UInt8} (h : Vv k n s) : In64 n ∧ s.length ≤ 64 := by
  rcases h with ⟨-, h2, h3⟩ | ⟨-, h2, h3⟩ | ⟨-, h2, h3⟩
  · exact ⟨h2, by rw [h3]; simp⟩
  · exact ⟨by rw [h2]; exact in64_0, h3⟩
  · refine ⟨?_, by rw [h3]; simp⟩
    rcases h2 with h2 | h2 <;> (rw [h2]; unfold In64; decide)
theorem test_nok {n : Np} (h : TestN n) : NOk n := by
  obtain ⟨h1, -, h2⟩ := h
  have hs := tw_small h1
  rcases h2 with ⟨he, hv⟩ | ⟨he, hk, hv⟩
  · refine ⟨by rw [he]; exact in64_0, by rw [he]; exact in64_0, by rw [he]; exact in64_0, by rw [he]; exact in64_0, hv, hs, ?_, ?_⟩
    · rw [he]; exact ⟨by show 0 ≤ 1024; omega, fun x hx => by cases hx⟩
    · rw [he]; exact ⟨by show 0 ≤ 1024; omega, fun x hx => by cases hx⟩
  · refine ⟨by unfold In64; omega, by rw [he]; exact in64_0, by rw [he]; exact in64_0, (vv_in hv).1, (vv_in hv).2, hs, ?_, ?_⟩
    · rw [he]; exact ⟨by show 0 ≤ 1024; omega, fun x hx => by cases hx⟩
    · rw [he]; exact ⟨by show 0 ≤ 1024; omega, fun x hx => by cases hx⟩
/- A test. -/
theorem test_step (d : Nat) {n : Np} (h : TestN n) : Nn d [n] := by
  have hk : n.kind = 14 ∨ n.kind = 15 := by
    rcases h.2.2 with ⟨he, -⟩ | ⟨he, -⟩
    · right; rw [he]
    · left; rw [he]
  have hl : n.l = [] := by
    rcases h.2.2 with ⟨he, -⟩ | ⟨he, -⟩
    · rw [he]; rfl
    · rw [he]; rfl
  have hrk : rk [n] = n.kind := (wq_last [] n).2
  have hw : wq [n] = testW n := by
    have := (wq_last [] n).1
    rw [List.nil_append] at this
    rw [this]
    unfold nodeX condX testW
    rcases hk with e | e
    · rw [e]; rfl
    · rw [e]; rfl
  refine ⟨⟨by simp, ahn_nil.snoc (by rw [hl]; rcases hk with e | e <;> (rw [e]; rfl)) (by rw [hl]; simp), by rw [hrk]; rcases hk with e | e <;> (rw [e]; decide), by rw [hw]; exact testW_t h, nok_one (test_nok h)⟩, ?_, (fun e => by rw [hrk] at e; omega), fun e => by rw [hrk] at e; omega⟩
  intro ts p ns hh
  rw [bdr_w (by rw [hrk]; omega) (by rw [hrk]; omega), hw] at hh ⊢
  have h1 : Has ts p (testW n ++ []) := by rw [List.append_nil]; exact hh
  obtain ⟨tl, htl⟩ : ∃ tl, testW n = n.s :: tl := by unfold testW; split <;> exact ⟨_, rfl⟩
  have h2 : Has ts p (n.s :: tl) := by rw [← htl]; exact hh
  have hl3 : (testW n).length = 3 := by unfold testW; split <;> rfl
  have ht := has_test h h1
  have key : ∀ o, notB ts o p ns = .ok (Out ns [n]) (p + (testW n).length) := by
    intro o
    unfold notB
    rw [h2.kw h.1.kw, if_neg (by simpa using h.2.1), h2.kw h.1.kw, if_neg (by simpa using h.1.not_open), ht, hl3]
    show Rs.ok (ns.length, ns ++ [n]) _ = _
    congr 1
    have : shN ns.length n = n := by
      obtain ⟨_, _, _, _, _, _, _, _, l, _, _⟩ := n
      simp at hl
      subst hl; rfl
    simp [Out, sh, this]
  cases d with
  | zero => exact key none
  | succ d => exact key (some (notS ts d))
end Go.Proofs.YtmpjmimhoikknaaGreatDoor
namespace Go.Proofs.YtmpjmimhoikknaaGreatDoor

structure TokOk (ts : List Tp) : Prop where
  w : ∀ t ∈ ts, t.kind = 1 → Wd t.s
  n : ∀ t ∈ ts, t.kind = 2 → In64 t.n
  s : ∀ t ∈ ts, t.kind = 3 → t.s.length ≤ 64
  len : ts.length ≤ 1024
section
variable {ts : List Tp} {i j : Nat}
theorem take_is {k : Int} {t : Tp} (h : takeS ts k i = .ok t j) : ts[i]? = some t ∧ t.kind = k ∧ j = i + 1 := by
  unfold takeS at h
  split at h
  · rename_i hk
    unfold isK at hk
    cases e : ts[i]? with
    | none => rw [e] at hk; cases hk
    | some u =>
      rw [e] at hk
      cases h
      refine ⟨?_, ?_, rfl⟩
      · unfold hereS; rw [e]; rfl
      · unfold hereS; rw [e]; simpa using hk
  · cases h
theorem name_wd (hT : TokOk ts) {x : List UInt8} (h : nameS ts i = .ok x j) : Wd x ∧ ∃ t, ts[i]? = some t ∧ t.kind = 1 ∧ t.s = x := by
  obtain ⟨t, i1, h1, h2⟩ := and_ok h
  cases h2
  obtain ⟨e1, e2, e3⟩ := take_is h1
  exact ⟨hT.w t (List.mem_of_getElem? e1) e2, t, e1, e2, rfl⟩
theorem num_in (hT : TokOk ts) {x : Int} (h : numS' ts i = .ok x j) : In64 x := by
  obtain ⟨t, i1, h1, h2⟩ := and_ok h
  cases h2
  obtain ⟨e1, e2, e3⟩ := take_is h1
  exact hT.n t (List.mem_of_getElem? e1) e2
theorem text_in (hT : TokOk ts) {v : Int × Int × List UInt8} (h : textV ts i = .ok v j) : v.1 = 2 ∧ v.2.1 = 0 ∧ v.2.2.length ≤ 64 := by
  obtain ⟨t, i1, h1, h2⟩ := and_ok h
  cases h2
  obtain ⟨e1, e2, e3⟩ := take_is h1
  exact ⟨rfl, rfl, hT.s t (List.mem_of_getElem? e1) e2⟩
theorem value_vv (hT : TokOk ts) {v : Int × Int × List UInt8} (h : valueS ts i = .ok v j) : Vv v.1 v.2.1 v.2.2 := by
  unfold valueS at h
  split at h
  · obtain ⟨n, i1, h1, h2⟩ := and_ok h
    cases h2
    exact .inl ⟨rfl, num_in hT h1, rfl⟩
  · split at h
    · exact .inr (.inl (text_in hT h))
    · obtain ⟨k, i1, h1, h2⟩ := and_ok h
      cases h2
      have := oneOf_lt h1
      simp [boolW] at this
      exact .inr (.inr ⟨rfl, by show (k : Int) = 0 ∨ (k : Int) = 1; omega, rfl⟩)
theorem test_n (hT : TokOk ts) {n : Np} (hn : isW ts i wNot = false) (h : testS ts i = .ok n j) : TestN n := by
  obtain ⟨x, i1, h1, h2⟩ := and_ok h
  obtain ⟨hx, t, e1, e2, e3⟩ := name_wd hT h1
  have hne : x ≠ wNot := by
    intro e
    unfold isW at hn
    rw [e1] at hn
    simp [e2, e3, e] at hn
  split at h2
  · obtain ⟨v, i2, h3, h4⟩ := and_ok h2
    cases h4
    obtain ⟨g1, g2, g3⟩ := text_in hT h3
    exact ⟨hx, hne, .inl ⟨by rw [g1, g2], g3⟩⟩
  · obtain ⟨k, i2, h3, h4⟩ := and_ok h2
    obtain ⟨v, i3, h5, h6⟩ := and_ok h4
    cases h6
    have := oneOf_lt h3
    simp [howW] at this
    exact ⟨hx, hne, .inr ⟨rfl, ⟨by show 1 ≤ 1 + (k : Int); omega, by show 1 + (k : Int) ≤ 6; omega⟩, value_vv hT h5⟩⟩
/- Each node of a condition is the last one of a condition by itself. -/
def SubC (d : Nat) (new : List Np) : Prop := ∀ i, i < new.length → ∃ pre s, new.take (i + 1) = pre ++ sh pre.length s ∧ Cd s ∧ C1 d s
theorem SubC.mo {d : Nat} {new : List Np} (h : SubC d new) : SubC (d + 1) new := fun i hi => let ⟨pre, s, h1, h2, h3⟩ := h i hi; ⟨pre, s, h1, h2, h3.mo⟩
theorem sub_app {A R : List Np} {d : Nat} (hR : SubC d R) {i : Nat} (hi : i < R.length) (post : List Np) : ∃ pre s, (A ++ sh A.length R ++ post).take (A.length + i + 1) = pre ++ sh pre.length s ∧ Cd s ∧ C1 d s := by
  obtain ⟨pre, s, h1, h2, h3⟩ := hR i hi
  refine ⟨A ++ sh A.length pre, s, ?_, h2, h3⟩
  rw [List.take_append_of_le_length (by rw [List.length_append, sh_len]; omega), Nat.add_assoc, List.take_append, List.take_of_length_le (by omega), show A.length + (i + 1) - A.length = i + 1 by omega]
  have : (sh A.length R).take (i + 1) = sh A.length (R.take (i + 1)) := by unfold sh; rw [List.map_take]
  rw [this, h1, sh_app, sh_sh, List.append_assoc, List.length_append, sh_len]
theorem sub_left {A post : List Np} {d : Nat} (hA : SubC d A) {i : Nat} (hi : i < A.length) : ∃ pre s, (A ++ post).take (i + 1) = pre ++ sh pre.length s ∧ Cd s ∧ C1 d s := by
  obtain ⟨pre, s, h1, h2, h3⟩ := hA i hi
  exact ⟨pre, s, by rw [List.take_append_of_le_length (by omega)]; exact h1, h2, h3⟩
theorem sub_whole {new : List Np} {d : Nat} (h1 : Cd new) (h2 : C1 d new) : ∃ pre s, new.take (new.length - 1 + 1) = pre ++ sh pre.length s ∧ Cd s ∧ C1 d s :=
  ⟨[], new, by rw [List.take_of_length_le (by omega), List.nil_append, List.length_nil, sh_zero], h1, h2⟩
theorem sub_join {k : Int} {A R : List Np} {d : Nat} (hA : SubC d A) (hR : SubC d R) (h1 : Cd (join2 k A R)) (h2 : C1 d (join2 k A R)) : SubC d (join2 k A R) := by
  intro i hi
  have hl : (join2 k A R).length = A.length + R.length + 1 := by unfold join2; simp [sh_len]; omega
  rcases Nat.lt_or_ge i A.length with h | h
  · unfold join2; rw [List.append_assoc]; exact sub_left hA h
  · rcases Nat.lt_or_ge i (A.length + R.length) with h' | h'
    · have := sub_app (A := A) hR (i := i - A.length) (by omega) [andN k A.length R.length]
      rwa [show A.length + (i - A.length) + 1 = i + 1 by omega] at this
    · have e : i = (join2 k A R).length - 1 := by omega
      rw [e]; exact sub_whole h1 h2
theorem sub_not {R : List Np} {d : Nat} (hR : SubC d R) (h1 : Cd (R ++ [notN R.length])) (h2 : C1 (d + 1) (R ++ [notN R.length])) : SubC (d + 1) (R ++ [notN R.length]) := by
  intro i hi
  have hl : (R ++ [notN R.length]).length = R.length + 1 := by simp
  rcases Nat.lt_or_ge i R.length with h | h
  · exact sub_left hR.mo h
  · have e : i = (R ++ [notN R.length]).length - 1 := by omega
    rw [e]; exact sub_whole h1 h2
theorem sub_one {n : Np} {d : Nat} (h1 : Cd [n]) (h2 : C1 d [n]) : SubC d [n] := by
  intro i hi
  have e : i = [n].length - 1 := by simp at hi ⊢; omega
  rw [e]; exact sub_whole h1 h2
def NotR (ts : List Tp) (d : Nat) : Prop := ∀ i ns r j, notS ts d i ns = .ok r j → ∃ new, r = Out ns new ∧ Nn d new ∧ SubC d new ∧ i + (bdr new 3).length ≤ j
def BothR (ts : List Tp) (d : Nat) : Prop := ∀ i ns r j, bothB ts (notS ts d) i ns = .ok r j → ∃ new, r = Out ns new ∧ Bn2 d new ∧ SubC d new ∧ i + (bdr new 2).length ≤ j
def CondR (ts : List Tp) (d : Nat) : Prop := ∀ i ns r j, condS ts d i ns = .ok r j → ∃ new, r = Out ns new ∧ Qn1 d new ∧ SubC d new ∧ i + (wq new).length ≤ j
theorem bdr_le23 (new : List Np) : (bdr new 2).length ≤ (bdr new 3).length := by
  by_cases h : rk new = 11
  · rw [bdr_12 (by rw [h]; decide), bdr_b (.inl h)]; simp [inB]; omega
  · rw [bdr_23 h]; exact Nat.le_refl _
theorem bdr_le12 (new : List Np) : (wq new).length ≤ (bdr new 2).length := by
  by_cases h : rk new = 12
  · rw [bdr_23 (by rw [h]; decide), bdr_b (.inr h)]; simp [inB]; omega
  · rw [bdr_12 h]; exact Nat.le_refl _
theorem both_loop {d i0 : Nat} (hN : NotR ts d) : ∀ (f : Nat) (ns A : List Np) (q : Nat) (r : Nat × List Np) (j : Nat), Bn2 d A → SubC d A → i0 + (bdr A 2).length ≤ q → chainL ts wAnd 11 (notS ts d) f (Out ns A).1 q (Out ns A).2 = .ok r j → ∃ new, r = Out ns new ∧ Bn2 d new ∧ SubC d new ∧ i0 + (bdr new 2).length ≤ j
  | 0, ns, A, q, r, j, hA, hs, hq, h => by
    unfold chainL at h; cases h
    exact ⟨A, rfl, hA, hs, hq⟩
  | f + 1, ns, A, q, r, j, hA, hs, hq, h => by
    unfold chainL at h
    split at h
    · obtain ⟨r1, i1, h1, h2⟩ := and_ok h
      obtain ⟨R, rfl, hR, hRs, hRl⟩ := hN _ _ _ _ h1
      obtain ⟨g1, g2⟩ := out_join 11 ns A R hA.1.ne hR.1.ne
      rw [g1, g2] at h2
      exact both_loop hN f ns (join2 11 A R) i1 r j (and_step hA hR) (sub_join hs hRs (and_step hA hR).1 (and_step hA hR).q.c1) (by rw [bdr_12 (by rw [join2_rk]; decide), join2_words (.inl rfl) hA.1 hR.1, show bindsN 11 = 2 from rfl]; simp only [List.length_append, List.length_cons, List.length_nil]; show i0 + ((bdr A 2).length + (0 + 1) + (bdr R 3).length) ≤ i1; omega) h2
    · cases h
      exact ⟨A, rfl, hA, hs, hq⟩
theorem both_rt {d : Nat} (hN : NotR ts d) : BothR ts d := by
  intro i ns r j h
  obtain ⟨r1, i1, h1, h2⟩ := and_ok h
  obtain ⟨A, rfl, hA, hs, hl⟩ := hN _ _ _ _ h1
  exact both_loop hN _ ns A i1 r j hA.b hs (by have := bdr_le23 A; omega) h2
theorem cond_loop {d i0 : Nat} (hB : BothR ts d) : ∀ (f : Nat) (ns A : List Np) (q : Nat) (r : Nat × List Np) (j : Nat), Qn1 d A → SubC d A → i0 + (wq A).length ≤ q → chainL ts wOr 12 (bothB ts (notS ts d)) f (Out ns A).1 q (Out ns A).2 = .ok r j → ∃ new, r = Out ns new ∧ Qn1 d new ∧ SubC d new ∧ i0 + (wq new).length ≤ j
  | 0, ns, A, q, r, j, hA, hs, hq, h => by
    unfold chainL at h; cases h
    exact ⟨A, rfl, hA, hs, hq⟩
  | f + 1, ns, A, q, r, j, hA, hs, hq, h => by
    unfold chainL at h
    split at h
    · obtain ⟨r1, i1, h1, h2⟩ := and_ok h
      obtain ⟨R, rfl, hR, hRs, hRl⟩ := hB _ _ _ _ h1
      obtain ⟨g1, g2⟩ := out_join 12 ns A R hA.1.ne hR.1.ne
      rw [g1, g2] at h2
      exact cond_loop hB f ns (join2 12 A R) i1 r j (or_step hA hR) (sub_join hs hRs (or_step hA hR).1 (or_step hA hR).c1) (by rw [join2_words (.inr rfl) hA.1 hR.1, show bindsN 12 = 1 from rfl, bdr_1]; simp only [List.length_append, List.length_cons, List.length_nil]; show i0 + ((wq A).length + (0 + 1) + (bdr R 2).length) ≤ i1; omega) h2
    · cases h
      exact ⟨A, rfl, hA, hs, hq⟩
theorem cond_rt {d : Nat} (hN : NotR ts d) : CondR ts d := by
  intro i ns r j h
  obtain ⟨r1, i1, h1, h2⟩ := and_ok h
  obtain ⟨A, rfl, hA, hs, hl⟩ := both_rt hN _ _ _ _ h1
  exact cond_loop (both_rt hN) _ ns A i1 r j hA.q hs (by have := bdr_le12 A; omega) h2
theorem out_one (ns : List Np) {n : Np} (hl : n.l = []) : Out ns [n] = (ns.length, ns ++ [n]) := by
  have : shN ns.length n = n := by
    obtain ⟨_, _, _, _, _, _, _, _, l, _, _⟩ := n
    simp at hl
    subst hl; rfl
  simp [Out, sh, this]
theorem testN_l {n : Np} (h : TestN n) : n.l = [] := by
  rcases h.2.2 with ⟨he, -⟩ | ⟨he, -⟩
  · rw [he]; rfl
  · rw [he]; rfl
theorem out_not (ns R : List Np) (hR : 0 < R.length) : ((Out ns R).2.length, (Out ns R).2 ++ [{ n0 with kind := 13, l := [((Out ns R).1 : Int)] }]) = Out ns (R ++ [notN R.length]) := by
  unfold Out
  simp only [sh_app, List.length_append, sh_len, List.length_cons, List.length_nil, List.append_assoc, Prod.mk.injEq]
  refine ⟨by omega, ?_⟩
  congr 2
  simp only [sh, List.map_cons, List.map_nil, shN, notN]
  congr 2
  simp only [List.cons.injEq, and_true]
  omega
theorem bdr_le3 (new : List Np) : (bdr new 3).length ≤ (wq new).length + 2 := by
  unfold bdr
  split
  · simp [inB]
  · omega
theorem not_words {R : List Np} (h : Cd R) : bdr (R ++ [notN R.length]) 3 = [wNot] ++ bdr R 3 := by
  have hn := h.ne
  have hrk : rk (R ++ [notN R.length]) = 13 := (wq_last _ _).2
  rw [bdr_w (by rw [hrk]; decide) (by rw [hrk]; decide), (wq_last _ _).1]
  have hkd : (notN R.length).kind = 13 := rfl
  unfold nodeX
  rw [hkd, if_neg (by decide), if_pos (by decide)]
  unfold condX
  rw [hkd, if_neg (by decide), if_pos rfl]
  have e0 : lAt (notN R.length) 0 = 0 + R.length - 1 := by simp [lAt, notN]
  rw [e0]
  have h0 := bdW_seg (k := 0) (pre := []) (post := [notN R.length]) rfl h.ah hn (d := R.length) (by omega) 3
  rw [List.nil_append, sh_zero] at h0
  rw [h0]
theorem test_words {n : Np} (h : TestN n) : (bdr [n] 3).length = 3 := by
  have hk : n.kind = 14 ∨ n.kind = 15 := by
    rcases h.2.2 with ⟨he, -⟩ | ⟨he, -⟩
    · right; rw [he]
    · left; rw [he]
  have hrk : rk [n] = n.kind := (wq_last [] n).2
  rw [bdr_w (by rw [hrk]; omega) (by rw [hrk]; omega)]
  have := (wq_last [] n).1
  rw [List.nil_append] at this
  rw [this]
  unfold nodeX condX
  rcases hk with e | e <;> (rw [e]; rfl)
theorem test_len {n : Np} (h : testS ts i = .ok n j) : i + 3 ≤ j := by
  obtain ⟨x, i1, h1, h2⟩ := and_ok h
  have g1 := name_go ts _ _ _ h1
  split at h2
  · obtain ⟨v, i2, h3, h4⟩ := and_ok h2
    have g2 := text_go ts _ _ _ h3
    cases h4; omega
  · obtain ⟨k, i2, h3, h4⟩ := and_ok h2
    have g2 := oneOf_go ts _ _ _ _ h3
    obtain ⟨v, i3, h5, h6⟩ := and_ok h4
    have g3 := value_go ts _ _ _ h5
    cases h6; omega
theorem notB_rt (hT : TokOk ts) {d : Nat} {o : Option PN} (ho : ∀ p, o = some p → ∃ e, d = e + 1 ∧ p = notS ts e ∧ NotR ts e) : ∀ i ns r j, notB ts o i ns = .ok r j → ∃ new, r = Out ns new ∧ Nn d new ∧ SubC d new ∧ i + (bdr new 3).length ≤ j := by
  intro i ns r j h
  unfold notB at h
  split at h
  · cases o with
    | none => cases h
    | some p =>
      obtain ⟨e, rfl, rfl, hN⟩ := ho p rfl
      obtain ⟨r1, i1, h1, h2⟩ := and_ok h
      obtain ⟨R, rfl, hR, hs, hl⟩ := hN _ _ _ _ h1
      cases h2
      exact ⟨R ++ [notN R.length], out_not ns R hR.1.ne, not_step hR, sub_not hs (not_step hR).1 (not_step hR).b.q.c1, by rw [not_words hR.1]; simp; omega⟩
  · rename_i hn
    split at h
    · rename_i ho'
      unfold inBr at h
      rw [if_pos ho'] at h
      cases o with
      | none => cases (show Rs.bad i 2 = Rs.ok r j from h)
      | some p =>
        obtain ⟨e, rfl, rfl, hN⟩ := ho p rfl
        obtain ⟨r1, i1, h1, h2⟩ := and_ok (show (condB ts (notS ts e) (i + 1) ns).and _ = _ from h)
        obtain ⟨u, i2, h3, h4⟩ := and_ok h2
        cases h4
        obtain ⟨new, rfl, hq, hs, hl⟩ := cond_rt hN _ _ _ _ h1
        have hg := want_go ts _ _ _ _ h3
        exact ⟨new, rfl, br_step hq, hs.mo, by have := bdr_le3 new; omega⟩
    · obtain ⟨n, i1, h1, h2⟩ := and_ok h
      have hn' : isW ts i wNot = false := by simpa using hn
      have ht := test_n hT hn' h1
      cases h2
      exact ⟨[n], (out_one ns (testN_l ht)).symm, test_step d ht, sub_one (test_step d ht).1 (test_step d ht).b.q.c1, by rw [test_words ht]; exact test_len h1⟩
theorem not_rt (hT : TokOk ts) : ∀ d, NotR ts d
  | 0 => notB_rt hT (fun p h => by cases h)
  | d + 1 => notB_rt hT (fun p h => by cases h; exact ⟨d, rfl, rfl, not_rt hT d⟩)
end
end Go.Proofs.YtmpjmimhoikknaaGreatDoor
