/-
  Stage 16's examples: what the steps tell of them.
-/
import Derived.Test.YtcidijjbcebcbaaKW15
import Derived.Test.YtcidijjbcebcbaaKW17
import Derived.Test.YtcidijjbcebcbaaKW18
namespace Go.Proofs.Ytcidijjbcebcbaa.RO
open Go.RowKit Go.Joins Go.Sort

def cs2 : List TN.Cl := [TN.cT, TN.cN]
def nB : ByteArray := ⟨#[110]⟩
def xB : ByteArray := ⟨#[120]⟩
theorem up_two {a b : TN.Rw} (h : TN.cmpR a b ≤ 0) : TN.upR [a, b] := List.Pairwise.cons (fun x hx => by simp at hx; subst hx; exact h) (List.pairwise_singleton _ _)
theorem sort_two {a b : TN.Rw} (h : TN.cmpR a b ≤ 0) : TN.sortR [a, b] = [a, b] := (TN.sortR_of (up_two h) (List.Perm.refl _)).symm
theorem al_rows : TN.sortR ((TN.rowsP [-1, 0, 25, 1]).map (alR (TN.findC cs2 tmB).toNat 10)) = TN.rowsP [-10, 0, 20, 1] := by
  have e : (TN.rowsP [-1, 0, 25, 1]).map (alR (TN.findC cs2 tmB).toNat 10) = TN.rowsP [-10, 0, 20, 1] := by decide +kernel
  rw [e]
  exact sort_two (a := TN.rowP [-10, 0, 20, 1] 0) (b := TN.rowP [-10, 0, 20, 1] 1) (by decide +kernel)
theorem al_E : runE cs2 (TN.rowsP [-1, 0, 25, 1]) (alB cs2 10) = 0 := by decide +kernel
theorem al_O : okE cs2 (TN.rowsP [-1, 0, 25, 1]) (alB cs2 10) = true := by decide +kernel
theorem to_E : runE cs2 (TN.rowsP [1, 5, 2, 7, 3, 7]) (topB cs2 2 nB) = 0 := by decide +kernel
theorem to_O : okE cs2 (TN.rowsP [1, 5, 2, 7, 3, 7]) (topB cs2 2 nB) = true := by decide +kernel
theorem to_rows : topR (TN.findC cs2 nB).toNat (2 : Int).toNat (TN.rowsP [1, 5, 2, 7, 3, 7]) = TN.rowsP [2, 7, 3, 7] := by
  have e : topL (TN.findC cs2 nB).toNat (TN.rowsP [1, 5, 2, 7, 3, 7]) = TN.rowsP [2, 7, 3, 7, 1, 5] := by
    refine (top_unique ?_ ?_).symm
    · decide +kernel
    · exact (List.perm_append_comm (l₁ := TN.rowsP [2, 7, 3, 7]) (l₂ := TN.rowsP [1, 5]))
  unfold topR
  rw [e]
  exact sort_two (a := TN.rowP [2, 7, 3, 7] 0) (b := TN.rowP [2, 7, 3, 7] 1) (by decide +kernel)
theorem g_E : runE cs2 (TN.rowsP [1, 5]) (topB cs2 0 nB) = 1 := by decide +kernel
theorem h_E : runE cs2 (TN.rowsP [1, 5]) (topB cs2 1 xB) = 1 := by decide +kernel
theorem i_E : runE cs2 (TN.rowsP [1, 5]) (alB cs2 0) = 1 := by decide +kernel
theorem nums_of {ns : List Int} (h : ∀ n ∈ ns, InI n) : NumsIn (TN.rowsP ns) := by
  intro r hr v hv
  unfold TN.rowsP at hr
  obtain ⟨i, hi, rfl⟩ := List.mem_map.1 hr
  have key : ∀ j, InI ns[j]! := fun j => by
    by_cases hj : j < ns.length
    · exact h _ (List.mem_of_getElem? (TN.get!_some hj))
    · rw [List.getElem!_eq_getElem?_getD, List.getElem?_eq_none (by omega)]; exact ⟨by decide, by decide⟩
  unfold TN.rowP at hv
  simp only [List.mem_cons, List.not_mem_nil, or_false] at hv
  rcases hv with rfl | rfl
  · exact key _
  · exact key _
theorem tab_of {b : Bool} {w w' : World} {v : Value} {cs : List TN.Cl} {rs : List TN.Rw} (h : TabE b w w' v cs rs) (hb : b = true) : TN.TabAt w' v cs rs := by subst hb; exact TN.TabIn.at h
def FormT (v : Value) : Prop := ∃ pc nc cc pr nr cr, v = .agg #[.slice pc nc cc, .slice pr nr cr]
theorem alA {v : Value} {w : World} (h : TN.TabAt w v cs2 (TN.rowsP [-1, 0, 25, 1])) : Calls Try.prog 55 #[v, .int .i64 10] w fun e w' => ∃ v', e = .returned (.tuple #[v', .int .i64 0]) ∧ FormT v' ∧ TN.TabAt w' v' cs2 (TN.rowsP [-10, 0, 20, 1]) ∧ Below w.heap.size w w' := by
  refine (align_any (n := 10) h ⟨by decide, by decide⟩ (nums_of (by intro n hn; simp at hn; rcases hn with rfl | rfl | rfl | rfl <;> exact ⟨by decide, by decide⟩)) (by decide)).mono ?_
  rintro e w' ⟨v', rfl, h1, h2⟩
  refine ⟨v', by rw [al_E], tabE_form h1, ?_, h2⟩
  have := tab_of h1 al_O
  rwa [al_rows] at this
theorem toA {v : Value} {w : World} (h : TN.TabAt w v cs2 (TN.rowsP [1, 5, 2, 7, 3, 7])) : Calls Try.prog 30 #[v, .int .i64 2, .string nB] w fun e w' => ∃ v', e = .returned (.tuple #[v', .int .i64 0]) ∧ FormT v' ∧ TN.TabAt w' v' cs2 (TN.rowsP [2, 7, 3, 7]) ∧ Below w.heap.size w w' := by
  refine (top_any (n := 2) h (by decide)).mono ?_
  rintro e w' ⟨v', rfl, h1, h2⟩
  refine ⟨v', by rw [to_E], tabE_form h1, ?_, h2⟩
  have := tab_of h1 to_O
  rwa [to_rows] at this
theorem toG {v : Value} {w : World} (h : TN.TabAt w v cs2 (TN.rowsP [1, 5])) : Calls Try.prog 30 #[v, .int .i64 0, .string nB] w fun e w' => ∃ v', e = .returned (.tuple #[v', .int .i64 1]) ∧ FormT v' ∧ Below w.heap.size w w' := by
  refine (top_any (n := 0) h (by decide)).mono ?_
  rintro e w' ⟨v', rfl, h1, h2⟩
  exact ⟨v', by rw [g_E], tabE_form h1, h2⟩
theorem toH {v : Value} {w : World} (h : TN.TabAt w v cs2 (TN.rowsP [1, 5])) : Calls Try.prog 30 #[v, .int .i64 1, .string xB] w fun e w' => ∃ v', e = .returned (.tuple #[v', .int .i64 1]) ∧ FormT v' ∧ Below w.heap.size w w' := by
  refine (top_any (n := 1) h (by decide)).mono ?_
  rintro e w' ⟨v', rfl, h1, h2⟩
  exact ⟨v', by rw [h_E], tabE_form h1, h2⟩
theorem alI {v : Value} {w : World} (h : TN.TabAt w v cs2 (TN.rowsP [1, 5])) : Calls Try.prog 55 #[v, .int .i64 0] w fun e w' => ∃ v', e = .returned (.tuple #[v', .int .i64 1]) ∧ FormT v' ∧ Below w.heap.size w w' := by
  refine (align_any (n := 0) h ⟨by decide, by decide⟩ (nums_of (by intro n hn; simp at hn; rcases hn with rfl | rfl <;> exact ⟨by decide, by decide⟩)) (by decide)).mono ?_
  rintro e w' ⟨v', rfl, h1, h2⟩
  exact ⟨v', by rw [i_E], tabE_form h1, h2⟩
/- pairs of a literal row of numbers. -/
def lit (ns : List Int) : List Value := ns.map (fun n => .int .i64 n)
theorem pairs_lit {ns : List Int} {w : World} {b n n2 : Nat} (h : w.heap[b]? = some (.cells (lit ns).toArray 3 (0, 0))) (hn : ns.length = n) (hn2 : n = 2 * n2) (hl : n2 ≤ 1000) : Calls Try.prog 56 #[.slice (some ⟨b, 0, none⟩) n n] w fun e w' => ∃ v', e = .returned v' ∧ FormT v' ∧ TN.TabAt w' v' cs2 (TN.rowsP ns) ∧ Below w.heap.size w w' := by
  have hs : TN.SlAt TN.any TN.encI 1 w (.slice (some ⟨b, 0, none⟩) n n) ns := (TN.lit_sl (enc := TN.encI) (k := 1) h (fun _ => rfl) (by unfold lit; rw [List.map_eq_flatMap]; rfl) hn.symm (Nat.le_refl _) (by omega)).imp (fun _ _ => trivial)
  refine (TN.pairs_any (n2 := n2) hs (by omega) hl).mono ?_
  rintro e w' ⟨v', rfl, h1, h2⟩
  refine ⟨v', rfl, ?_, h1.at, h2⟩
  obtain ⟨c, r, rfl, ⟨p, cap, rfl, -⟩, hs, ⟨q, cq, rfl, -⟩, -⟩ := h1
  exact ⟨_, _, _, _, _, _, rfl⟩
end Go.Proofs.Ytcidijjbcebcbaa.RO
