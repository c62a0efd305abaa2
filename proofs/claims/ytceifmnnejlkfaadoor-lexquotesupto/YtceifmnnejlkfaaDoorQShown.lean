/-
  Rows of tokens read; what shown returns.
-/
import Derived.Test.YtceifmnnejlkfaaDoorQLex
namespace Go.Proofs.YtceifmnnejlkfaaDoor
open Go.RowKit Go.Joins

def LexIs (ts : List Tk) (a er : Int) (w : World) (e : Ending) (w' : World) : Prop := ∃ v, e = .returned (.tuple #[v, .int .i64 a, .int .i64 er]) ∧ Tr w.heap.size w' v ts ∧ Below w.heap.size w w'
theorem lex_is {l : List UInt8} {ts : List Tk} {a : Nat} {er : Int} (h : lexO l = (ts, a, er)) (hl : (l.length : Int) ≤ 140737488355328) (w : World) (hG : Gd w) : Calls Tryd.prog 10 #[.string (St l)] w (LexIs ts a er w) := by
  have := lex_any l hl w hG
  unfold LexP at this
  rw [h] at this
  exact this
theorem flat_at : ∀ (ts : List Tk) (i j : Nat) (h : i < ts.length), j < 4 → (tksC ts)[i * 4 + j]? = (tkC ts[i])[j]?
  | [], i, j, h, _ => by simp at h
  | t :: r, 0, j, h, hj => by
    show (tkC t ++ tksC r)[0 * 4 + j]? = _
    rw [List.getElem?_append_left (by simp [tkC]; omega)]; simp
  | t :: r, i + 1, j, h, hj => by
    show (tkC t ++ tksC r)[(i + 1) * 4 + j]? = _
    rw [List.getElem?_append_right (by simp [tkC]; omega), show (i + 1) * 4 + j - (tkC t).length = i * 4 + j by simp [tkC]; omega]
    exact flat_at r i j (by simpa using h) hj
/-- A row of tokens laid open: where its cells lie. -/
def Rw (w : World) (g : Nat) (ts : List Tk) : Prop := ∀ i (h : i < ts.length), w.cell? ⟨g, i * 4, none⟩ = some (.int .i64 ts[i].kind) ∧ w.cell? ⟨g, i * 4 + 1, none⟩ = some (.string (St ts[i].s)) ∧ w.cell? ⟨g, i * 4 + 2, none⟩ = some (.int .i64 ts[i].n) ∧ w.cell? ⟨g, i * 4 + 3, none⟩ = some (.int .i64 ts[i].at_)
theorem Tr.form {B : Nat} {w : World} {v : Value} {ts : List Tk} (h : Tr B w v ts) : ∃ g cap, (v = .slice none 0 0 ∧ ts = [] ∨ v = .slice (some ⟨g, 0, none⟩) ts.length cap) ∧ Rw w g ts := by
  rcases ownsRow_forms h with ⟨rfl, h0⟩ | ⟨g, cap, rfl⟩
  · obtain rfl : ts = [] := List.eq_nil_of_length_eq_zero h0
    exact ⟨0, 0, .inl ⟨rfl, rfl⟩, fun i h => by simp at h⟩
  · refine ⟨g, cap, .inr rfl, fun i hi => ?_⟩
    have hc : ∀ j u, (tksC ts)[j]? = some u → w.cell? ⟨g, j, none⟩ = some u := fun j u hj => by
      have := World.ownsRow.cells h (g := g) rfl j u hj
      rw [Addr.add_lit] at this
      simpa using this
    have hf := fun j hj => flat_at ts i j hi hj
    refine ⟨hc _ _ ?_, hc _ _ ?_, hc _ _ ?_, hc _ _ ?_⟩
    · have := hf 0 (by decide); simpa [tkC] using this
    · have := hf 1 (by decide); simpa [tkC] using this
    · have := hf 2 (by decide); simpa [tkC] using this
    · have := hf 3 (by decide); simpa [tkC] using this
theorem Tr.formNe {B : Nat} {w : World} {v : Value} {ts : List Tk} (h : Tr B w v ts) (hne : 0 < ts.length) : ∃ g cap, v = .slice (some ⟨g, 0, none⟩) ts.length cap ∧ Rw w g ts := by
  obtain ⟨g, cap, h1, h2⟩ := h.form
  rcases h1 with ⟨-, rfl⟩ | h1
  · simp at hne
  · exact ⟨g, cap, h1, h2⟩
theorem below_on {W w1 w2 : World} (h : Below W.heap.size W w1) (h2 : Below w1.heap.size w1 w2) : Below W.heap.size W w2 := h.trans (h2.mono h.size)
theorem x1 : lexO [107, 101, 101, 112, 32, 97, 44, 45, 53] = ([⟨1, [107, 101, 101, 112], 0, 0⟩, ⟨1, [97], 0, 5⟩, ⟨4, [44], 0, 6⟩, ⟨2, [], -5, 7⟩], 0, 0) := by decide +kernel
theorem x2 : lexO [97, 32, 33, 61, 32, 34, 120, 92, 34, 121, 34] = ([⟨1, [97], 0, 0⟩, ⟨4, [33, 61], 0, 2⟩, ⟨3, [120, 34, 121], 0, 5⟩], 0, 0) := by decide +kernel
theorem x3 : lexO [53, 97] = ([], 0, 110) := by decide +kernel
theorem x4 : lexO [97, 32, 45, 32, 53] = ([], 2, 110) := by decide +kernel
theorem x5 : lexO [34, 97] = ([], 0, 110) := by decide +kernel
theorem x6 : lexO [48, 48, 55] = ([], 0, 110) := by decide +kernel
theorem l1 (w : World) (hG : Gd w) : Calls Tryd.prog 10 #[.string ⟨#[107, 101, 101, 112, 32, 97, 44, 45, 53]⟩] w (LexIs [⟨1, [107, 101, 101, 112], 0, 0⟩, ⟨1, [97], 0, 5⟩, ⟨4, [44], 0, 6⟩, ⟨2, [], -5, 7⟩] 0 0 w) := lex_is x1 (by simp) w hG
theorem l2 (w : World) (hG : Gd w) : Calls Tryd.prog 10 #[.string ⟨#[97, 32, 33, 61, 32, 34, 120, 92, 34, 121, 34]⟩] w (LexIs [⟨1, [97], 0, 0⟩, ⟨4, [33, 61], 0, 2⟩, ⟨3, [120, 34, 121], 0, 5⟩] 0 0 w) := lex_is x2 (by simp) w hG
theorem l3 (w : World) (hG : Gd w) : Calls Tryd.prog 10 #[.string ⟨#[53, 97]⟩] w (LexIs [] 0 110 w) := lex_is x3 (by simp) w hG
theorem l4 (w : World) (hG : Gd w) : Calls Tryd.prog 10 #[.string ⟨#[97, 32, 45, 32, 53]⟩] w (LexIs [] 2 110 w) := lex_is x4 (by simp) w hG
theorem l5 (w : World) (hG : Gd w) : Calls Tryd.prog 10 #[.string ⟨#[34, 97]⟩] w (LexIs [] 0 110 w) := lex_is x5 (by simp) w hG
theorem l6 (w : World) (hG : Gd w) : Calls Tryd.prog 10 #[.string ⟨#[48, 48, 55]⟩] w (LexIs [] 0 110 w) := lex_is x6 (by simp) w hG
theorem Rw.on {w w' : World} {g : Nat} {ts : List Tk} (h : Rw w g ts) (hg : g < w.heap.size) (hb : Below w.heap.size w w') : Rw w' g ts := fun i hi => by
  obtain ⟨h0, h1, h2, h3⟩ := h i hi
  exact ⟨(hb.cell (p := ⟨g, i * 4, none⟩) hg).trans h0, (hb.cell (p := ⟨g, i * 4 + 1, none⟩) hg).trans h1, (hb.cell (p := ⟨g, i * 4 + 2, none⟩) hg).trans h2, (hb.cell (p := ⟨g, i * 4 + 3, none⟩) hg).trans h3⟩
set_option maxRecDepth 100000 in
set_option maxHeartbeats 1000000 in
theorem shown_any (w : World) (hG : Gd w) : Calls Tryd.prog 9 #[] w fun e w' => e = .returned (.bool true) ∧ Below w.heap.size w w' := by
  have M1 : Hid True := hid trivial
  have M2 : Hid True := hid trivial
  have M3 : Hid True := hid trivial
  have M4 : Hid True := hid trivial
  have M5 : Hid True := hid trivial
  have M6 : Hid True := hid trivial
  go_enter Tryd.func9, Tryd.ntmps9
  go_wp2_with (first
    | (go_at_call 10; clear M1; refine (l1 _ hG).mono ?_; unfold LexIs; rintro e w1 ⟨v1, rfl, ht1, hb1⟩; have T1 := hid ht1; have B1 := hid hb1; have G1 := hid (hG.next hb1); clear ht1 hb1)
    | (go_at_call 10; clear M2; refine (l2 _ G1.out).mono ?_; unfold LexIs; rintro e w2 ⟨v2, rfl, ht2, hb2⟩; have T2 := hid ht2; have S1 := hid (T1.out.on hb2); have B2 := hid (below_on B1.out hb2); have G2 := hid (G1.out.next hb2); clear ht2 hb2)
    | (go_at_call 10; clear M3; refine (l3 _ G2.out).mono ?_; unfold LexIs; rintro e w3 ⟨v3, rfl, ht3, hb3⟩; have S2 := hid (S1.out.on hb3); have U2 := hid (T2.out.on hb3); have B3 := hid (below_on B2.out hb3); have G3 := hid (G2.out.next hb3); clear ht3 hb3)
    | (go_at_call 10; clear M4; refine (l4 _ G3.out).mono ?_; unfold LexIs; rintro e w4 ⟨v4, rfl, ht4, hb4⟩; have S3 := hid (S2.out.on hb4); have U3 := hid (U2.out.on hb4); have B4 := hid (below_on B3.out hb4); have G4 := hid (G3.out.next hb4); clear ht4 hb4)
    | (go_at_call 10; clear M5; refine (l5 _ G4.out).mono ?_; unfold LexIs; rintro e w5 ⟨v5, rfl, ht5, hb5⟩; have S4 := hid (S3.out.on hb5); have U4 := hid (U3.out.on hb5); have B5 := hid (below_on B4.out hb5); have G5 := hid (G4.out.next hb5); clear ht5 hb5)
    | (go_at_call 10; clear M6; refine (l6 _ G5.out).mono ?_; unfold LexIs; rintro e w6 ⟨v6, rfl, ht6, hb6⟩; have S5 := hid (S4.out.on hb6); have U5 := hid (U4.out.on hb6); have B6 := hid (below_on B5.out hb6); clear ht6 hb6
       obtain ⟨g1, cap1, rfl, R1⟩ := S5.out.formNe (by simp)
       obtain ⟨g2, cap2, rfl, R2⟩ := U5.out.formNe (by simp)
       have r13 := R1 3 (by simp)
       have r21 := R2 1 (by simp)
       have r22 := R2 2 (by simp)
       simp [St] at r13 r21 r22
       obtain ⟨q0, q1, q2, q3⟩ := r13
       obtain ⟨p0, p1, p2, p3⟩ := r21
       obtain ⟨o0, o1, o2, o3⟩ := r22
       clear R1 R2))
  go_ret
  exact ⟨rfl, B6.out⟩
end Go.Proofs.YtceifmnnejlkfaaDoor
