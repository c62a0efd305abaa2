/-
  What sign returns, where the table of signs stands as the program lays it.
-/
import Derived.Test.YtomnjckbgmbgmaaGreatDoorQPre
namespace Go.Proofs.YtomnjckbgmbgmaaGreatDoor
open Go.RowKit
/-- The table of signs. -/
def Sg (w : World) : Prop := 0 < w.heap.size ∧ ∀ i, i < 11 → w.cell? ⟨0, i, none⟩ = some (.string (St (signsL.getD i [])))
abbrev sgV : Value := .agg #[.string (St [33, 61]), .string (St [60, 61]), .string (St [62, 61]), .string (St [124]), .string (St [44]), .string (St [40]), .string (St [41]), .string (St [58]), .string (St [61]), .string (St [60]), .string (St [62])]
set_option maxRecDepth 100000 in
theorem sg_idx (k : Nat) (h : k < 11) (w : World) : (Instr.index 135 sgV (.int .i64 (k : Int))).run Tryz.prog w = .ok (.string (St (signsL.getD k []))) w := by
  have u51 := Tryz.underlying135
  match k, h with
  | 0, _ => go_simp; rfl
  | 1, _ => go_simp; rfl
  | 2, _ => go_simp; rfl
  | 3, _ => go_simp; rfl
  | 4, _ => go_simp; rfl
  | 5, _ => go_simp; rfl
  | 6, _ => go_simp; rfl
  | 7, _ => go_simp; rfl
  | 8, _ => go_simp; rfl
  | 9, _ => go_simp; rfl
  | 10, _ => go_simp; rfl
theorem sign_no {l : List UInt8} (h : ∀ i, i < 11 → (signsL.getD i []).isPrefixOf l = false) : signS l = none := by
  unfold signS
  rw [List.find?_eq_none.2 ?_]
  intro x hx
  obtain ⟨i, hi, rfl⟩ := List.mem_iff_getElem.1 hx
  have hi' : i < 11 := hi
  have := h i hi'
  rw [List.getD_eq_getElem?_getD, List.getElem?_eq_getElem hi] at this
  exact Bool.not_eq_true _ ▸ this
theorem find_at {α : Type} (p : α → Bool) : ∀ (L : List α) (k : Nat) (h : k < L.length), (∀ i (h : i < L.length), i < k → p L[i] = false) → p L[k] = true → L.find? p = some L[k]
  | [], k, h, _, _ => by simp at h
  | a :: L, 0, h, h1, h2 => by
    have h2' : p a = true := h2
    simp [List.find?, h2']
  | a :: L, k + 1, h, h1, h2 => by
    have h0 : p a = false := h1 0 (by simp) (by omega)
    rw [List.find?_cons, h0]
    simpa using find_at p L k (by simpa using h) (fun i hi hk => h1 (i + 1) (by simp; omega) (by omega)) h2
theorem sign_yes {l : List UInt8} {k : Nat} (hk : k < 11) (h : ∀ i, i < k → (signsL.getD i []).isPrefixOf l = false) (h2 : (signsL.getD k []).isPrefixOf l = true) :
    signS l = some (⟨4, signsL.getD k [], 0, 0⟩, (signsL.getD k []).length) := by
  have hl : signsL.length = 11 := rfl
  have e : ∀ i (h : i < signsL.length), signsL.getD i [] = signsL[i] := fun i h => by rw [List.getD_eq_getElem?_getD, List.getElem?_eq_getElem h]; rfl
  unfold signS
  rw [find_at (fun x => x.isPrefixOf l) signsL k (by omega) (fun i hi hik => by have := h i hik; rw [e i hi] at this; exact this) (by rw [e k (by omega)] at h2; exact h2)]
  rw [e k (by omega)]
theorem sgGet (k : Nat) (h : k < 11) : (signsL.getD k []).length ≤ 2 := by
  have e : signsL.getD k [] = signsL[k]'h := by rw [List.getD_eq_getElem?_getD, List.getElem?_eq_getElem (show k < signsL.length from h)]; rfl
  rw [e]; exact (signs_len (List.getElem_mem _)).2
theorem Sg.on {w w' : World} {b : Nat} (h : Sg w) (hb : 0 < b) (hB : Below b w w') : Sg w' := ⟨by have := hB.size; have := h.1; omega, fun i hi => by
  rw [← h.2 i hi]
  exact hB.cell hb⟩
theorem Sg.alloc {w : World} (h : Sg w) (o : Obj) : Sg (w.alloc o) := h.on h.1 ((Below.refl _ w).alloc (Nat.le_refl _) o)
theorem load_sg {w : World} (h : Sg w) : w.cell? ⟨0, 0, none⟩ = some (.string (St [33, 61])) ∧ w.cell? ⟨0, 1, none⟩ = some (.string (St [60, 61])) ∧ w.cell? ⟨0, 2, none⟩ = some (.string (St [62, 61])) ∧ w.cell? ⟨0, 3, none⟩ = some (.string (St [124])) ∧ w.cell? ⟨0, 4, none⟩ = some (.string (St [44])) ∧ w.cell? ⟨0, 5, none⟩ = some (.string (St [40])) ∧ w.cell? ⟨0, 6, none⟩ = some (.string (St [41])) ∧ w.cell? ⟨0, 7, none⟩ = some (.string (St [58])) ∧ w.cell? ⟨0, 8, none⟩ = some (.string (St [61])) ∧ w.cell? ⟨0, 9, none⟩ = some (.string (St [60])) ∧ w.cell? ⟨0, 10, none⟩ = some (.string (St [62])) :=
  ⟨h.2 0 (by decide), h.2 1 (by decide), h.2 2 (by decide), h.2 3 (by decide), h.2 4 (by decide), h.2 5 (by decide), h.2 6 (by decide), h.2 7 (by decide), h.2 8 (by decide), h.2 9 (by decide), h.2 10 (by decide)⟩
abbrev z31 : Array Value := #[.int .i64 0, .string ⟨#[]⟩, .int .i64 0, .int .i64 0]
theorem St_nil : St [] = ⟨#[]⟩ := rfl
set_option maxRecDepth 100000 in
set_option maxHeartbeats 1000000 in
theorem sign_any (l : List UInt8) (w : World) (hS : Sg w) : Calls Tryz.prog 104 #[.string (St l)] w fun e w' => e = .returned (ansV (signS l)) ∧ Below w.heap.size w w' := by
  have h0 := hS.1
  have cc := load_sg (hS.alloc (.cells z31 33))
  obtain ⟨c0, c1, c2, c3, c4, c5, c6, c7, c8, c9, c10⟩ := cc
  clear hS
  go_enter Tryz.func104, Tryz.ntmps104
  go_wp2_with fail
  clear c0 c1 c2 c3 c4 c5 c6 c7 c8 c9 c10
  go_loopw [7] (fun i wr => ∃ k : Nat, (k : Int) ≤ 11 ∧ i = .int .i64 k ∧ Hid (∀ i, i < k → (signsL.getD i []).isPrefixOf l = false) ∧ w.alloc (.cells z31 33) = wr) (fun i _ => 11 - (intOf i).toNat)
  case atStart => exact ⟨0, by omega, rfl, fun i hi => by omega, rfl⟩
  case round =>
    obtain ⟨k, hk, rfl, HA, hw⟩ := hrel
    by_cases hlt : k < 11
    · have hi := sg_idx k hlt
      have hI : (k : Int) < 11 := by omega
      have HL := hid hlt
      have HY := hid (@sign_yes l k hlt HA.out)
      generalize hx : signsL.getD k [] = x at *
      have HX := hid hx
      clear hlt hx
      have hsx := St_size x
      cases hc : x.isPrefixOf l with
      | true =>
        have HZ := hid (HY.out hc)
        clear HY
        subst hw
        go_wp2_with (go_at_call 128; refine (pre_any _ _ _).mono ?_; rintro e w2 ⟨rfl, rfl⟩; rw [hc])
        refine bodyPost_ret (v := .tuple #[TV 4 x 0 0, .int .i64 x.length]) (by simp [results, Tryz.results104, go_sem]) rfl ⟨by rw [HZ.out]; rfl, by go_grown⟩
      | false =>
        clear HY
        go_wp2_with (go_at_call 128; refine (pre_any _ _ _).mono ?_; rintro e w2 ⟨rfl, rfl⟩; rw [hc])
        go_roundw
        case rel =>
          refine ⟨k + 1, by omega, by go_num, ?_, hw⟩
          intro i hik
          rcases Nat.lt_or_ge i k with h1 | h1
          · exact HA.out i h1
          · obtain rfl : i = k := by omega
            rw [HX.out]; exact hc
        case measure => simp [intOf]; omega
    · have hk11 : k = 11 := by omega
      subst hk11
      have HZ := hid (sign_no (l := l) (fun i hi => HA.out i hi))
      subst hw
      go_wp2_with fail
      refine bodyPost_ret (v := .tuple #[TV 0 [] 0 0, .int .i64 0]) (by simp [results, Tryz.results104, go_sem]; rfl) rfl ⟨by rw [HZ.out]; rfl, by go_grown⟩
end Go.Proofs.YtomnjckbgmbgmaaGreatDoor
