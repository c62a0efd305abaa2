/-
  What LeafOnce returns, for all numbers.
-/
import Derived.Test.YtlbjbkhcnafhcaaGreatQLOMath
import Derived.Test.YtlbjbkhcnafhcaaGreatP36Laid
import Derived.Test.YtlbjbkhcnafhcaaGreatP21STwice
namespace Go.Proofs.YtlbjbkhcnafhcaaGreat
open Go.RowKit Go.Sort Go.Shelf Go.Maps

/- Numbers as an argument. -/
def IntA (w : World) (v : Value) (l : List Int) : Prop := ∃ p cap, v = .slice p l.length cap ∧ l.length ≤ cap ∧ l.length ≤ maxLen ∧ (∀ x ∈ l, Ok64 x) ∧ ∀ (j : Nat) x, l[j]? = some x → ∃ g o, p = some ⟨g, o, none⟩ ∧ w.cell? ⟨g, o + j, none⟩ = some (.int .i64 x)
theorem info34 : (Tryz.prog.info? 34).map (fun i => (i.zero, i.size, i.bytes)) = some (some (.agg #[.string ⟨#[]⟩, .slice none 0 0, .int .i64 0, .slice none 0 0]), 4, 72) := by kernel_rfl
theorem elem34 : ElemN 23 34 4 72 := by
  obtain ⟨i, hi, h0, h1, h2⟩ := info_parts info34
  exact ⟨Tryz.underlying23, by omega, i, _, hi, h0, h1, Nat.le_of_eq h2, rfl⟩
theorem ph_len (h : Ph) : h.cells.length = 4 := rfl
theorem ph_cells {h : Ph} (hk : h.kv.oneCell' = true) (hv : h.vv.oneCell' = true) : ∀ c ∈ h.cells, c.oneCell' = true := by
  intro c hc; simp [Ph.cells] at hc; rcases hc with rfl | rfl | rfl | rfl
  · rfl
  · exact hk
  · rfl
  · exact hv
theorem ph1 {w : World} {B : Nat} {h : Ph} (hb : w.heap[B]? = some (.cells #[.string h.nm, h.kv, .int .i64 h.tm, h.vv] 34)) : SlAt any Ph.cells 4 w (.slice (some ⟨B, 0, none⟩) 1 1) [h] := by
  refine ⟨_, 1, rfl, ⟨Nat.le_refl _, fun e => by cases e⟩, by simp [maxLen], fun _ => ⟨B, 0, rfl, ⟨trivial, by simp [bsz]⟩, fun j x hj i u hu => ?_⟩⟩
  have hj0 : j = 0 := by have := (List.getElem?_eq_some_iff.1 hj).1; simp at this; omega
  subst hj0
  simp at hj
  subst hj
  rw [block_cell hb]
  simpa [Ph.cells] using hu
/- A list of points of the caller's own. -/
def HeadsL (w : World) (hs : List Ph) (l : List Pt) : Prop := hs.length = l.length ∧ ∀ (j : Nat) h p, hs[j]? = some h → l[j]? = some p → h.nm = p.sc ∧ h.tm = p.tm ∧ RowIn (ty36 any w) w h.kv p.ks ∧ RowIn (ty36 any w) w h.vv p.vs
theorem HeadsL.kp {T : Nat → Prop} {w w' : World} {hs : List Ph} {l : List Pt} (h : HeadsL w hs l) (hk : Kp T w w') (ht : ∀ k, ty36 any w k → ¬ T k) : HeadsL w' hs l := ⟨h.1, fun j x s h1 h2 => let ⟨a, b, c, d⟩ := h.2 j x s h1 h2; ⟨a, b, row_kp c hk ht, row_kp d hk ht⟩⟩
theorem HeadsL.on {w w' : World} {hs : List Ph} {l : List Pt} (h : HeadsL w hs l) (hb : Below w.heap.size w w') : HeadsL w' hs l := h.kp (T := fun _ => False) (Kp.of hb) (fun _ _ => id)
theorem headsL_snoc {w : World} {hs : List Ph} {l : List Pt} {h : Ph} {p : Pt} (hh : HeadsL w hs l) (hi : h.nm = p.sc ∧ h.tm = p.tm ∧ RowIn (ty36 any w) w h.kv p.ks ∧ RowIn (ty36 any w) w h.vv p.vs) : HeadsL w (hs ++ [h]) (l ++ [p]) := by
  refine ⟨by simp [hh.1], fun j x q h1 h2 => ?_⟩
  by_cases hlt : j < hs.length
  · rw [List.getElem?_append_left hlt] at h1
    rw [List.getElem?_append_left (by rw [← hh.1]; exact hlt)] at h2
    exact hh.2 j x q h1 h2
  · have hj : j = hs.length := by have := (List.getElem?_eq_some_iff.1 h1).1; simp at this; omega
    subst hj
    rw [List.getElem?_append_right (Nat.le_refl _)] at h1
    rw [hh.1, List.getElem?_append_right (Nat.le_refl _)] at h2
    simp at h1 h2
    subst h1 h2
    exact hi
structure PL (B : Nat) (w : World) (v : Value) (l : List Pt) : Prop where
  row : ∃ hs, Own Ph.cells 4 34 B w v hs ∧ HeadsL w hs l
theorem own_off34 {B : Nat} {w : World} {v : Value} {hs : List Ph} (h : Own Ph.cells 4 34 B w v hs) {k : Nat} (hk : ty36 any w k) : ¬ v.ownBlock = some k := fun e => by
  obtain ⟨c, f, hc⟩ := own_kind h e
  obtain ⟨-, c', f', hc'⟩ := hk
  rw [hc] at hc'; cases hc'
theorem PL.kp {B : Nat} {T : Nat → Prop} {w w' : World} {v : Value} {l : List Pt} (h : PL B w v l) (hk : Kp T w w') (ht : ∀ k cs t fz, w.heap[k]? = some (.cells cs t fz) → (t = 34 ∨ t = 40) → ¬ T k) : PL B w' v l := by
  obtain ⟨hs, h1, h2⟩ := h.row
  refine ⟨hs, own_kp h1 hk (fun g hg => ?_), h2.kp hk (fun k hk => ?_)⟩
  · obtain ⟨c, f, hc⟩ := own_kind h1 hg
    exact ht g _ _ _ hc (.inl rfl)
  · obtain ⟨-, c, fz, hc⟩ := hk
    exact ht k _ _ _ hc (.inr rfl)
theorem PL.on {B : Nat} {w w' : World} {v : Value} {l : List Pt} (h : PL B w v l) (hb : Below w.heap.size w w') : PL B w' v l := h.kp (T := fun _ => False) (Kp.of hb) (fun _ _ _ _ _ _ => id)
theorem PL.leaf {B : Nat} {w w' : World} {v : Value} {l : List Pt} (h : PL B w v l) {w0 : World} {b : Nat} {S : List Sc} {room : Int} {x : Lx} {pts : List Pt} (hl : Lv w0 w b S room x pts) (hk : Kp (Tl b x) w w') : PL B w' v l := by
  obtain ⟨⟨B', _, h2⟩, _⟩ := hl
  obtain ⟨l', R, h4, _⟩ := h2.lk
  exact h.kp hk fun k cs t fz hc e => h4.T_not hc (by rcases e with rfl | rfl <;> decide) (by rcases e with rfl | rfl <;> decide) (by rcases e with rfl | rfl <;> decide) (by rcases e with rfl | rfl <;> decide) (by rcases e with rfl | rfl <;> decide)
theorem PL.get {B : Nat} {w : World} {v : Value} {l : List Pt} (h : PL B w v l) (hl : l.length ≤ 1000) : ∃ p c, v = .slice p l.length c ∧ l.length ≤ c ∧ ∀ (j : Nat) q, l[j]? = some q → ∃ g o pk ck pv cv, p = some ⟨g, o, none⟩ ∧ PtC w g (o + j * 4) q pk ck pv cv ∧ PtT any w (.agg #[.string q.sc, .slice pk (List.length q.ks) ck, .int .i64 q.tm, .slice pv (List.length q.vs) cv]) q := by
  obtain ⟨hs, h1, h2⟩ := h.row
  obtain ⟨p, c, hv, hc, hm, hx⟩ := Own.sl h1 ph_len (by rw [h2.1]; unfold bsz; simp; omega)
  refine ⟨p, c, by rw [hv, h2.1], by have := hc.1; rw [h2.1] at this; exact this, fun j q hj => ?_⟩
  have hjl : j < hs.length := by rw [h2.1]; exact (List.getElem?_eq_some_iff.1 hj).1
  obtain ⟨g, o, hp, -, hcell⟩ := hx (by intro e; subst e; simp at hjl)
  obtain ⟨e1, e2, e3, e4⟩ := h2.2 j _ _ (List.getElem?_eq_getElem hjl) hj
  have hcs := hcell j _ (List.getElem?_eq_getElem hjl)
  have c0 := hcs 0 _ rfl
  have c1 := hcs 1 _ rfl
  have c2 := hcs 2 _ rfl
  have c3 := hcs 3 _ rfl
  have e3' := e3
  have e4' := e4
  obtain ⟨pk, ck, hkv, -⟩ := e3
  obtain ⟨pv, cv, hvv, -⟩ := e4
  rw [e1] at c0
  rw [e2] at c2
  rw [hkv] at c1 e3'
  rw [hvv] at c3 e4'
  exact ⟨g, o, pk, ck, pv, cv, hp, ⟨c0, c1, c2, c3, e3'.imp fun _ _ => trivial, e4'.imp fun _ _ => trivial⟩, ⟨pk, ck, pv, cv, rfl, e3', e4'⟩⟩
/- One leaf while another one turns. -/
theorem Lv.other {w0 w w' : World} {a b : Nat} {S S' : List Sc} {room room' : Int} {x y : Lx} {pts qts : List Pt} (hb : Lv w0 w b S room y qts) (ha : Lv w0 w a S' room' x pts) (hk : Kp (Tl a x) w w') (hap : ∀ k, Tl b y k → ¬ Tl a x k) : Lv w0 w' b S room y qts := by
  have hT := ha.T_ge
  obtain ⟨⟨B, h1, h2⟩, h3⟩ := hb
  obtain ⟨⟨B', _, h5⟩, _⟩ := ha
  obtain ⟨l, R, h6, _⟩ := h5.lk
  exact ⟨⟨B, h1, h2.kp hk (fun k hk => h6.tyS_not hk) hap (fun k hk => h6.ty_not hk)⟩, h3.trans (hk.below h3.size hT)⟩
theorem Lv.T_lt {w0 w : World} {b : Nat} {S : List Sc} {room : Int} {x : Lx} {pts : List Pt} (h : Lv w0 w b S room x pts) : ∀ k, Tl b x k → k < w.heap.size := fun k hk => by
  obtain ⟨⟨B, h1, h2⟩, _⟩ := h
  obtain ⟨l, R, h4, _⟩ := h2.lk
  exact (h4.T_kind k hk).1
end Go.Proofs.YtlbjbkhcnafhcaaGreat
