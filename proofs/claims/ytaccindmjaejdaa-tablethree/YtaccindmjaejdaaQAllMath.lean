/-
  Keeping all columns, and keeping the last ones of what was kept: lists alone.
-/
import Derived.Test.YtaccindmjaejdaaPM
import Derived.Test.YtaccindmjaejdaaQKeepMath
namespace Go.Proofs.Ytaccindmjaejdaa
open Go.RowKit Go.Sort Go.Shelf

def nmsOf (cs : List Cl) : List ByteArray := cs.map fun c => c.nm
theorem nms_get {cs : List Cl} {k : Nat} (h : k < cs.length) : (nmsOf cs)[k]! = cs[k]!.nm := by
  unfold nmsOf
  rw [List.getElem!_eq_getElem?_getD, List.getElem?_map, get!_some h]; rfl
theorem places_from {cs : List Cl} (h : colsB cs = true) : ∀ (d k : Nat) (acc : List Nat), k + d = cs.length → (∀ p ∈ acc, p < k) → places cs ((nmsOf cs).drop k) acc = acc ++ List.range' k d
  | 0, k, acc, hk, _ => by
    have e : (nmsOf cs).drop k = [] := List.drop_eq_nil_of_le (by simp [nmsOf]; omega)
    rw [e]; simp [places]
  | d + 1, k, acc, hk, ha => by
    have hlt : k < (nmsOf cs).length := by simp [nmsOf]; omega
    rw [places_step hlt, nms_get (by omega), check_unique h (by omega), if_neg (by
      intro hb
      rcases hb with hb | hb
      · omega
      · have := ha _ hb
        simp at this)]
    rw [Int.toNat_natCast, places_from h d (k + 1) _ (by omega) (fun p hp => by
      rcases List.mem_append.1 hp with hp | hp
      · have := ha p hp; omega
      · simp at hp; omega)]
    simp [List.range'_succ]
theorem pick_all {α : Type} [Inhabited α] (r : List α) : (List.range' 0 r.length).map (fun p => r[p]!) = r := by
  apply List.ext_getElem?
  intro i
  rw [List.getElem?_map]
  by_cases h : i < r.length
  · rw [List.getElem?_range' h]
    simp [h]
  · rw [List.getElem?_eq_none (by simp; omega), List.getElem?_eq_none (by omega)]; rfl
theorem check_sorted {cs : List Cl} {rs : List Rw} (h : checkV cs rs = 0) : checkV cs (sortR rs) = 0 := by
  have hc := check_colsB h
  unfold checkV at h ⊢
  rw [if_pos hc] at h ⊢
  split at h
  · rename_i ha
    rw [List.all_eq_true] at ha
    rw [if_pos (List.all_eq_true.2 fun r hr => ha r ((sortR_perm rs).mem_iff.1 hr))]
  · omega
theorem cols_some {cs : List Cl} (h : colsB cs = true) : 0 < cs.length := by
  simp only [colsB, decide_eq_true_eq] at h
  omega
theorem keep_from {cs : List Cl} {rs : List Rw} {k : Nat} (h : checkV cs rs = 0) (hk : k < cs.length) :
    keepE cs rs ((nmsOf cs).drop k) = 0 ∧ keepC cs rs ((nmsOf cs).drop k) = (List.range' k (cs.length - k)).map (fun p => cs[p]!) ∧ keepR cs rs ((nmsOf cs).drop k) = sortR (rs.map fun r => (List.range' k (cs.length - k)).map fun p => r[p]!) := by
  have hp := places_from (check_colsB h) (cs.length - k) k [] (by omega) (fun p hp => by cases hp)
  rw [List.nil_append] at hp
  have hne : List.range' k (cs.length - k) ≠ [] := by
    intro e
    have := congrArg List.length e
    simp at this
    omega
  have hE : keepE cs rs ((nmsOf cs).drop k) = 0 := by unfold keepE; rw [if_pos h, hp, if_neg hne]
  refine ⟨hE, ?_, ?_⟩
  · unfold keepC; rw [if_pos hE, hp]
  · unfold keepR; rw [if_pos hE, hp]
theorem keep_all {cs : List Cl} {rs : List Rw} (h : checkV cs rs = 0) : keepE cs rs (nmsOf cs) = 0 ∧ keepC cs rs (nmsOf cs) = cs ∧ keepR cs rs (nmsOf cs) = sortR rs := by
  obtain ⟨h1, h2, h3⟩ := keep_from (k := 0) h (cols_some (check_colsB h))
  rw [List.drop_zero, Nat.sub_zero] at *
  refine ⟨h1, h2.trans (pick_all cs), h3.trans ?_⟩
  have e : (rs.map fun r => (List.range' 0 cs.length).map fun p => r[p]!) = rs := by
    conv => rhs; rw [← List.map_id rs]
    apply List.map_congr_left
    intro r hr
    rw [← check_fits h r hr]
    exact pick_all r
  rw [e]
theorem keep_twice {cs : List Cl} {rs : List Rw} {k : Nat} (h : checkV cs rs = 0) (hk : k < cs.length) :
    keepE cs (sortR rs) ((nmsOf cs).drop k) = 0 ∧ keepC cs (sortR rs) ((nmsOf cs).drop k) = keepC cs rs ((nmsOf cs).drop k) ∧ keepR cs (sortR rs) ((nmsOf cs).drop k) = keepR cs rs ((nmsOf cs).drop k) ∧ (keepR cs rs ((nmsOf cs).drop k)).length = rs.length := by
  obtain ⟨h1, h2, h3⟩ := keep_from (k := k) h hk
  obtain ⟨g1, g2, g3⟩ := keep_from (k := k) (check_sorted h) hk
  refine ⟨g1, g2.trans h2.symm, ?_, ?_⟩
  · rw [g3, h3]
    exact sortR_perm_eq ((sortR_perm rs).map _)
  · rw [h3, sortR_length, List.length_map]
end Go.Proofs.Ytaccindmjaejdaa
