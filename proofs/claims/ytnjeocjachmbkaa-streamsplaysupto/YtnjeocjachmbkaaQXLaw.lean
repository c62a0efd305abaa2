/-
  The statements' argument: streams as they come in; a call of three arguments as one step of a region.
-/
import Derived.Test.YtnjeocjachmbkaaQXShown
namespace Go.Proofs.Ytnjeocjachmbkaa
open Go.RowKit Go.Sort Go.Maps Go.Shelf

structure Sz (s : Sm) : Prop where
  nm : s.nm.size ≤ 2000000
  ks : List.length s.ks ≤ 2000000
  rng : ∀ x ∈ s.ks, Rng x
/- Streams as an argument. -/
structure LsAt (w : World) (v : Value) (L : List Sm) : Prop where
  sl : ∃ p c, v = .slice p L.length c ∧ L.length ≤ c ∧ ∀ j s, L[j]? = some s → ∃ g o kp kc, p = some ⟨g, o, none⟩ ∧ w.cell? ⟨g, o + j * 2, none⟩ = some (.string s.nm) ∧ w.cell? ⟨g, o + j * 2 + 1, none⟩ = some (.slice kp (List.length s.ks) kc) ∧ RowAt w (.slice kp (List.length s.ks) kc) s.ks
  sz : ∀ s ∈ L, Sz s
  ml : L.length ≤ 9223372036854775807
theorem step_call3 {ops : Array Oper} {o : Oper} {a : Act} {w : World} {K : Act → World → Prop} {Q : Exit → Act → World → Prop} {E : Prop} {f : FuncId} {v v2 v3 : Value} (hgd : o.guard = none) (x y z : Operand) (t t2 t3 : TypeId)
    (ho : o.op = .call { callee := .value (.func f), args := #[x, y, z], argTypes := #[t, t2, t3] }) (hx : a.eval x = v) (hy : a.eval y = v2) (hz : a.eval z = v3) (hen : ∀ args w, (callFunc f args).run Try.prog w = .ok (.enter f args) w)
    (hc : Calls Try.prog f #[v, v2, v3] w fun e w' => ∃ u, e = .returned u ∧ K (a.put o.dst u) w') : if Region.wanted o (yielded ops a.tmps) = true then Oper.wp Try.prog o a w K Q else E := by
  have hw : Region.wanted o (yielded ops a.tmps) = true := by simp [Region.wanted, hgd]
  rw [if_pos hw]
  unfold Oper.wp
  have hr : (execOp a.eval o).run Try.prog w = .ok (.enter f #[v, v2, v3]) w := by
    simp [execOp, ho, resolve, invoke, hen, go_sem]
    rw [← hx, ← hy, ← hz]
    cases x <;> cases y <;> cases z <;> simp [Act.eval]
  rw [hr, Oper.upon_enter]
  refine hc.mono ?_
  rintro e w' ⟨u, rfl, hk⟩
  exact hk
theorem enters15 : ∀ args w, (callFunc 15 args).run Try.prog w = .ok (.enter 15 args) w := enters_of Try.func15 (by kernel_rfl) rfl
theorem enters16 : ∀ args w, (callFunc 16 args).run Try.prog w = .ok (.enter 16 args) w := enters_of Try.func16 (by kernel_rfl) rfl
abbrev K2 (g o : Nat) (nm : ByteArray) (kv : Value) (w : World) : Prop := w.cell? ⟨g, o, none⟩ = some (.string nm) ∧ w.cell? ⟨g, o + 1, none⟩ = some kv
theorem k2D {g o : Nat} {nm : ByteArray} {kv : Value} {w : World} (h : K2 g o nm kv w) : K2 g o nm kv w.drew := h
theorem k2On {g o B : Nat} {nm : ByteArray} {kv : Value} {w w' : World} (h : K2 g o nm kv w) (hg : g < B) (hb : Below B w w') : K2 g o nm kv w' := ⟨(hb.cell (p := ⟨g, o, none⟩) hg).trans h.1, (hb.cell (p := ⟨g, o + 1, none⟩) hg).trans h.2⟩
/- A dictionary filled: one that has room for all. -/
def dictL (most : Int) (L : List Sm) : List Sm := L.foldl (addL most) []
theorem dictL_snoc (most : Int) (L : List Sm) (s : Sm) : dictL most (L ++ [s]) = addL most (dictL most L) s := by unfold dictL; rw [List.foldl_append]; rfl
theorem dictL_take {most : Int} {L : List Sm} {k : Nat} {s : Sm} (h : L[k]? = some s) : dictL most (L.take (k + 1)) = addL most (dictL most (L.take k)) s := by
  rw [List.take_add_one, h]; exact dictL_snoc most _ s
theorem addL_len (most : Int) (l : List Sm) (s : Sm) : (addL most l s).length ≤ l.length + 1 := by unfold addL; split <;> simp
theorem foldl_len (most : Int) : ∀ (L acc : List Sm), (L.foldl (addL most) acc).length ≤ acc.length + L.length
  | [], acc => by simp
  | s :: r, acc => by
    have h1 := foldl_len most r (addL most acc s)
    have h2 := addL_len most acc s
    simp only [List.foldl_cons, List.length_cons]; omega
theorem dictL_len (most : Int) (L : List Sm) : (dictL most L).length ≤ L.length := by have := foldl_len most L []; simpa [dictL] using this
theorem addL_mono {most : Int} {l : List Sm} {s t : Sm} (h : t ∈ l) : t ∈ addL most l s := by unfold addL; split <;> simp [h]
theorem addL_pos {most : Int} {l : List Sm} {s t : Sm} (h : t ∈ l) : posS t (addL most l s) = posS t l := by
  unfold addL
  split
  · exact posS_app h
  · rfl
theorem addL_has {most : Int} {l : List Sm} {s : Sm} (h : okK s.ks = true) (hf : fullB most l = false) : s ∈ addL most l s := by
  by_cases hm : s ∈ l
  · exact addL_mono hm
  · rw [addL_new h (by simp [memS, hm]) hf]; simp
theorem full100 {L : List Sm} (h : L.length < 100) : fullB 100 (dictL 100 L) = false := by
  have := dictL_len 100 L
  simp [fullB]; omega
/- The numbers told on the way. -/
def idF (F : List Sm) (s : Sm) : Int := if okK s.ks then (posS s F : Int) else -1
def idsL (L : List Sm) : List Int := L.map (idF (dictL 100 L))
def allIn (L : List Sm) : Prop := ∀ s ∈ L, okK s.ks = true → s ∈ dictL 100 L
theorem allIn_step {L : List Sm} {s : Sm} (h : allIn L) (hl : L.length < 100) : allIn (L ++ [s]) := by
  intro t ht hok
  rw [dictL_snoc]
  rcases List.mem_append.1 ht with ht | ht
  · exact addL_mono (h t ht hok)
  · simp at ht; subst ht
    exact addL_has hok (full100 hl)
theorem idF_step {L : List Sm} {s t : Sm} (h : allIn L) (ht : t ∈ L) : idF (dictL 100 (L ++ [s])) t = idF (dictL 100 L) t := by
  unfold idF
  split
  · rename_i hok
    rw [dictL_snoc, addL_pos (h t ht hok)]
  · rfl
theorem addE_100 {L : List Sm} {s : Sm} (hl : L.length < 100) : addE 100 (dictL 100 L) s = if okK s.ks then 0 else 10 := by
  unfold addE
  rw [full100 hl]
  simp
theorem addI_100 {L : List Sm} {s : Sm} (hl : L.length < 100) (hok : okK s.ks = true) : addI 100 (dictL 100 L) s = (posS s (dictL 100 (L ++ [s])) : Int) := by
  unfold addI
  rw [hok, if_pos rfl, full100 hl, dictL_snoc]
  by_cases hm : s ∈ dictL 100 L
  · rw [if_pos hm, addL_pos hm]
  · rw [if_neg hm, if_neg (by decide), addL_new hok (by simp [memS, hm]) (full100 hl), posS_new hm]
theorem idsL_step {L : List Sm} {s : Sm} (h : allIn L) (hl : L.length < 100) : idsL (L ++ [s]) = idsL L ++ [if okK s.ks then addI 100 (dictL 100 L) s else -1] := by
  unfold idsL
  rw [List.map_append]
  congr 1
  · exact List.map_congr_left fun t ht => idF_step h ht
  · simp only [List.map_cons, List.map_nil]
    congr 1
    unfold idF
    split
    · rename_i hok; rw [addI_100 hl hok]
    · rfl
theorem pos_inj {F : List Sm} {s t : Sm} (hs : s ∈ F) (ht : t ∈ F) : posS s F = posS t F ↔ s = t := by
  constructor
  · intro e
    have h1 := posS_get hs
    have h2 := posS_get ht
    rw [e, h2] at h1
    exact (Option.some.inj h1).symm
  · intro e; rw [e]
end Go.Proofs.Ytnjeocjachmbkaa
