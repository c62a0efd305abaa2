/-
  Two runs beside each other, and a row of samples.
-/
import Derived.Test.YtkjbnanjlcdgjaaQLaw
namespace Go.Proofs.Ytkjbnanjlcdgjaa
open Go.RowKit Go.Sort Go.Shelf

/- Headers whose values lie in the arguments' memory. -/
def HeadsA (w0 : World) (hs : List Sh) (l : List Sp) : Prop := hs.length = l.length ∧ ∀ (j : Nat) h s, hs[j]? = some h → l[j]? = some s → h.t = s.t ∧ RowAt w0 h.kv s.vs
theorem HeadsA.nil (w0 : World) : HeadsA w0 [] [] := ⟨rfl, fun j x s h1 _ => by simp at h1⟩
theorem HeadsA.snoc {w0 : World} {hs : List Sh} {l : List Sp} {h : Sh} {s : Sp} (hh : HeadsA w0 hs l) (hn : h.t = s.t) (hr : RowAt w0 h.kv s.vs) : HeadsA w0 (hs ++ [h]) (l ++ [s]) := by
  refine ⟨by simp [hh.1], fun j x q h1 h2 => ?_⟩
  by_cases hlt : j < hs.length
  · rw [List.getElem?_append_left hlt] at h1
    rw [List.getElem?_append_left (by rw [← hh.1]; exact hlt)] at h2
    exact hh.2 j x q h1 h2
  · have hj : j = hs.length := by have := (List.getElem?_eq_some_iff.1 h1).1; simp at this; omega
    subst hj
    rw [List.getElem?_append_right (Nat.le_refl _)] at h1
    rw [hh.1, List.getElem?_append_right (Nat.le_refl _)] at h2
    simp at h1 h2
    subst h1 h2
    exact ⟨hn, hr⟩
/- Two runs, and a row of samples, none in another's memory. -/
structure Od (B : Nat) (w0 w : World) (a b : Nat) (F G : List Sp) (ov : Value) (O : List Sp) : Prop where
  st : ∃ sva pva svb pvb hs, Rk B any w a sva pva F ∧ Rk B any w b svb pvb G ∧ Own Sh.cells 2 32 B w ov hs ∧ HeadsA w0 hs O ∧ (∀ k, Tr a sva pva k → ¬ Tr b svb pvb k) ∧ (∀ k, ov.ownBlock = some k → ¬ Tr a sva pva k) ∧ (∀ k, ov.ownBlock = some k → ¬ Tr b svb pvb k)
theorem Od.symm {B : Nat} {w0 w : World} {a b : Nat} {F G : List Sp} {ov : Value} {O : List Sp} (h : Od B w0 w a b F G ov O) : Od B w0 w b a G F ov O := by
  obtain ⟨sva, pva, svb, pvb, hs, h1, h2, h3, h4, h5, h6, h7⟩ := h.st
  exact ⟨svb, pvb, sva, pva, hs, h2, h1, h3, h4, fun k x y => h5 k y x, h7, h6⟩
theorem Od.on {B : Nat} {w0 w w' : World} {a b : Nat} {F G : List Sp} {ov : Value} {O : List Sp} (h : Od B w0 w a b F G ov O) (hb : Below w.heap.size w w') : Od B w0 w' a b F G ov O := by
  obtain ⟨sva, pva, svb, pvb, hs, h1, h2, h3, h4, h5, h6, h7⟩ := h.st
  exact ⟨sva, pva, svb, pvb, hs, h1.on hb, h2.on hb, own_kp (T := fun _ => False) h3 (Kp.of hb) (fun _ _ => id), h4, h5, h6, h7⟩
theorem Od.a {B : Nat} {w0 w : World} {a b : Nat} {F G : List Sp} {ov : Value} {O : List Sp} (h : Od B w0 w a b F G ov O) : RkE B w a F := by
  obtain ⟨sva, pva, svb, pvb, hs, h1, -⟩ := h.st
  exact ⟨sva, pva, h1⟩
theorem Od.b {B : Nat} {w0 w : World} {a b : Nat} {F G : List Sp} {ov : Value} {O : List Sp} (h : Od B w0 w a b F G ov O) : RkE B w b G := h.symm.a
theorem Od.form {B : Nat} {w0 w : World} {a b : Nat} {F G : List Sp} {ov : Value} {O : List Sp} (h : Od B w0 w a b F G ov O) : ∃ p c, ov = .slice p O.length c := by
  obtain ⟨sva, pva, svb, pvb, hs, h1, h2, h3, h4, -⟩ := h.st
  exact own_formN h3 h4.1
theorem od_add {B : Nat} {w0 w : World} {a b : Nat} {F G O : List Sp} {ov v : Value} {s : Sp} (h : Od B w0 w a b F G ov O) (hlen : F.length ≤ 255) (hv : RowAt w v s.vs) (hB : B ≤ w.heap.size) :
    Calls Try.prog 9 #[dp a, .int .i64 s.t, v] w fun e w' => e = .returned (.bool (!hasT F s.t)) ∧ Od B w0 w' a b (addS F s) G ov O ∧ Below B w w' := by
  obtain ⟨sva, pva, svb, pvb, hs, h1, h2, h3, h4, h5, h6, h7⟩ := h.st
  refine (add_any h1 hlen hv (fun _ _ => trivial) hB).mono ?_
  rintro e w' ⟨rfl, sv', pv', h', hk, hf⟩
  refine ⟨rfl, ⟨sv', pv', svb, pvb, hs, h', h2.kp hk (fun k hb ha => h5 k ha hb) (fun k hk' => h1.ty_not hk'), own_kp h3 hk (fun k hk' => h6 k hk'), h4, fun k ha hb => ?_, fun k hk' ha => ?_, h7⟩, hk.below hB h1.T_ge⟩
  · rcases hf k ha with e | e
    · exact h5 k e hb
    · have := h2.T_lt k hb; omega
  · rcases hf k ha with e | e
    · exact h6 k hk' e
    · have := (own_at h3 hk').2; omega
theorem od_app {B : Nat} {w0 w w5 : World} {a b : Nat} {F G O : List Sp} {ov ov' kv : Value} {s : Sp} {A : Obj} {hs : List Sh} {sva pva svb pvb : Value}
    (h : Rk B any w a sva pva F ∧ Rk B any w b svb pvb G ∧ Own Sh.cells 2 32 B w ov hs ∧ HeadsA w0 hs O ∧ (∀ k, Tr a sva pva k → ¬ Tr b svb pvb k) ∧ (∀ k, ov.ownBlock = some k → ¬ Tr a sva pva k) ∧ (∀ k, ov.ownBlock = some k → ¬ Tr b svb pvb k))
    (hr : RowAt w0 kv s.vs) (hB : B ≤ w.heap.size) (ho : Own Sh.cells 2 32 B w5 ov' (hs ++ [⟨s.t, kv⟩])) (hg : (w.alloc A).grownBy w5 ov.ownBlock) (hat : At (w.alloc A) ov ov') :
    Od B w0 w5 a b F G ov' (O ++ [s]) ∧ Below B w w5 := by
  obtain ⟨h1, h2, h3, h4, h5, h6, h7⟩ := h
  have hba := (Below.refl w.heap.size w).alloc (Nat.le_refl _) A
  have hoa := own_kp (T := fun _ => False) h3 (Kp.of hba) (fun _ _ => id)
  have hk := Kp.grown (T := fun x => ov.ownBlock = some x) hg (fun k e => e)
  have hty : ∀ k, ty36 any (w.alloc A) k → ¬ ov.ownBlock = some k := fun k hk e => by
    obtain ⟨-, x, y, hx⟩ := hk
    obtain ⟨x', y', hx'⟩ := own_kind hoa e
    rw [hx] at hx'; cases hx'
  have hsz : (w.alloc A).heap.size = w.heap.size + 1 := World.size_alloc _ _
  refine ⟨⟨sva, pva, svb, pvb, _, (h1.on hba).kp hk (fun k ha e => h6 k e ha) hty, (h2.on hba).kp hk (fun k ha e => h7 k e ha) hty, ho, h4.snoc rfl hr, h5, fun k e ha => ?_, fun k e hb => ?_⟩, (hba.mono hB).trans (own_below hoa hg (Nat.le_trans hB hba.size))⟩
  · rcases hat k e with e | e
    · exact h6 k e ha
    · have := h1.T_lt k ha; omega
  · rcases hat k e with e | e
    · exact h7 k e hb
    · have := h2.T_lt k hb; omega
theorem od_cells {B : Nat} {w0 w : World} {a b n c q : Nat} {F G O : List Sp} {p : Option Addr} {s : Sp} (h : Od B w0 w a b F G (.slice p n c) O) (hl : O.length ≤ 1000) (hq : O[q]? = some s) :
    n ≤ c ∧ ∃ g o kp kc, p = some ⟨g, o, none⟩ ∧ w.cell? ⟨g, o + q * 2, none⟩ = some (.int .i64 s.t) ∧ w.cell? ⟨g, o + q * 2 + 1, none⟩ = some (.slice kp (List.length s.vs) kc) ∧ RowAt w0 (.slice kp (List.length s.vs) kc) s.vs := by
  obtain ⟨sva, pva, svb, pvb, hs, -, -, ho, hh, -⟩ := h.st
  obtain ⟨p', c', hv, hc, hm, hx⟩ := Own.sl ho sh_len (bs2 (by rw [hh.1]; exact hl))
  injection hv with e1 e2 e3
  subst e1 e3
  have hjl : q < hs.length := by rw [hh.1]; exact (List.getElem?_eq_some_iff.1 hq).1
  obtain ⟨g, o, hp, -, hcell⟩ := hx (by intro e; subst e; simp at hjl)
  obtain ⟨hnm, hrow⟩ := hh.2 q _ _ (List.getElem?_eq_getElem hjl) hq
  obtain ⟨c0, c1⟩ := sh_at (hcell q _ (List.getElem?_eq_getElem hjl))
  obtain ⟨kp, kc, hk, hr⟩ := hrow
  rw [hnm] at c0
  rw [hk] at c1
  exact ⟨by rw [e2]; exact hc.1, g, o, kp, kc, hp, c0, c1, kp, kc, rfl, hr⟩
end Go.Proofs.Ytkjbnanjlcdgjaa
