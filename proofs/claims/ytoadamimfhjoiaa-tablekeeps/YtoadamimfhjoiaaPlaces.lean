/-
  What table.placesOf returns, for all names and columns.
-/
import Derived.Test.YtoadamimfhjoiaaPick
namespace Go.Proofs.Ytoadamimfhjoiaa
open Go.RowKit Go.Sort Go.Shelf

def encS (s : ByteArray) : List Value := [.string s]
abbrev NamesAt (w : World) (v : Value) (ns : List ByteArray) : Prop := SlAt any encS 1 w v ns
def places (cs : List Cl) : List ByteArray → List Nat → List Nat
  | [], acc => acc
  | nm :: r, acc => if findC cs nm < 0 ∨ (findC cs nm).toNat ∈ acc then [] else places cs r (acc ++ [(findC cs nm).toNat])
theorem places_step {cs : List Cl} {ns : List ByteArray} {acc : List Nat} {k : Nat} (h : k < ns.length) : places cs (ns.drop k) acc = if findC cs ns[k]! < 0 ∨ (findC cs ns[k]!).toNat ∈ acc then [] else places cs (ns.drop (k + 1)) (acc ++ [(findC cs ns[k]!).toNat]) := by
  have e : ns[k]! = ns[k] := by rw [List.getElem!_eq_getElem?_getD, List.getElem?_eq_getElem h]; rfl
  rw [List.drop_eq_getElem_cons h, e]; rfl
theorem findC_lt (cs : List Cl) (nm : ByteArray) : findC cs nm < cs.length := by
  have gen : ∀ (l : List Cl) (i : Nat), Lib.idxByFrom (fun _ y => isNm nm y) default l i < (i : Int) + l.length := by
    intro l
    induction l with
    | nil => intro i; simp [Lib.idxByFrom]; omega
    | cons c r ih =>
      intro i
      have := ih (i + 1)
      simp only [Lib.idxByFrom, List.length_cons]
      split <;> omega
  have := gen cs 0
  simpa [findC, Lib.idxBy] using this
theorem contains_any {v : Value} {acc : List Nat} {p : Nat} {c : Bool} {w : World} (hv : SlAt any encN 1 w v acc) (h : decide (p ∈ acc) = c) :
    Calls Try.prog 54 #[v, .int .i64 (p : Int)] w fun e w' => e = .returned (.bool c) ∧ w' = w := by
  subst h
  obtain ⟨q, cap, rfl, hcap, hmax, hx⟩ := hv
  by_cases hn : acc = []
  · subst hn
    exact Try.slices_Contains_int_empty q cap p w
  · obtain ⟨b, o, rfl, -, hj⟩ := hx hn
    have hlen : (acc.map (fun n : Nat => (n : Int))).length = acc.length := by simp
    have h := Try.slices_Contains_int b o acc.length cap (acc.map (fun n : Nat => (n : Int))) p w (by rw [hlen]; exact Nat.le_refl _) hmax (fun j hjl => by
      rw [hlen] at hjl
      have := hj j _ (get!_some hjl) 0 _ rfl
      rw [Nat.mul_one, Nat.add_zero] at this
      rw [this, List.getD_eq_getElem?_getD, List.getElem?_map, List.getElem!_eq_getElem?_getD, List.getElem?_eq_getElem hjl]; rfl)
    rw [List.take_of_length_le (by rw [hlen]; exact Nat.le_refl _)] at h
    have e : (acc.map (fun n : Nat => (n : Int))).contains (p : Int) = decide (p ∈ acc) := by
      rw [Bool.eq_iff_iff]
      simp only [List.contains_iff_mem, List.mem_map, decide_eq_true_eq]
      constructor
      · rintro ⟨a, ha, he⟩; have : a = p := by omega
        rw [← this]; exact ha
      · intro h; exact ⟨p, h, rfl⟩
    rw [e] at h; exact h
theorem find_is {v : Value} {cs : List Cl} {nm : ByteArray} {w : World} {f : Int} (hv : ColsAt w v cs) (h : findC cs nm = f) :
    Calls Try.prog 15 #[v, .string nm] w fun e w' => e = .returned (.int .i64 f) ∧ Below w.heap.size w w' := by rw [← h]; exact find_any hv
theorem Own.on {α : Type} {enc : α → List Value} {k e B : Nat} {w w' : World} {v : Value} {xs : List α} (h : Own enc k e B w v xs) (hb : Below w.heap.size w w') : Own enc k e B w' v xs :=
  ⟨h.1, h.2.elim Or.inl (fun ⟨g, cap, cur, hv, hg, hblk, r⟩ => Or.inr ⟨g, cap, cur, hv, hg, block_on hblk hb, r⟩)⟩
theorem small1 {n : Nat} (h : n ≤ 4096) : n * bsz 1 ≤ 140737488355328 := by
  have e : bsz 1 = 24 := rfl
  rw [e]; omega
theorem lit_sl {α : Type} {enc : α → List Value} {k : Nat} {w : World} {B n cap : Nat} {C : Array Value} {e : TypeId} {xs : List α} (hb : w.heap[B]? = some (.cells C e (0, 0))) (hk : ∀ x, (enc x).length = k) (hC : C.toList = xs.flatMap enc) (hn : n = xs.length) (hcap : n ≤ cap) (hl : xs.length ≤ 4096) : SlAt (fun b => b = B) enc k w (.slice (some ⟨B, 0, none⟩) n cap) xs := by
  subst hn
  refine ⟨some ⟨B, 0, none⟩, cap, rfl, ⟨hcap, fun e => by cases e⟩, by unfold maxLen; omega, fun _ => ⟨B, 0, rfl, ⟨rfl, by unfold bsz; split <;> omega⟩, fun j x hx i u hu => ?_⟩⟩
  have h := flat_get hk xs j x hx i u hu
  rw [block_cell hb, ← Array.getElem?_toList, hC, Nat.zero_add]; exact h
set_option maxHeartbeats 1000000 in
theorem places_any {u v : Value} {ns : List ByteArray} {cs : List Cl} {w : World} (hu : NamesAt w u ns) (hv : ColsAt w v cs) (hl : ns.length ≤ 4096) :
    Calls Try.prog 45 #[u, v] w fun e w' => ∃ v', e = .returned v' ∧ SlAt any encN 1 w' v' (places cs ns []) ∧ ((∀ p ∈ places cs ns [], p < cs.length) ∧ (places cs ns []).length ≤ 4096) ∧ Below w.heap.size w w' := by
  obtain ⟨p, cap, rfl, hcap, hmax, hx⟩ := hu
  have HX := hid hx
  have HV := hid hv
  obtain ⟨pc, capc, rfl, -⟩ := hv
  clear hx hmax hcap
  have HFL := hid (findC_lt cs)
  generalize cs.length = nc at *
  generalize hr : places cs ns [] = res
  have HR := hid hr
  clear hr
  generalize hn : ns.length = n at *
  have HN := hid hn
  clear hn
  go_enter Try.func45, Try.ntmps45
  go_wp2
  go_loopw [5, 11] (fun v5 i wr => ∃ (k : Nat) (acc : List Nat), k ≤ n ∧ i = .int .i64 k ∧ acc.length ≤ k ∧ Hid (Own encN 1 3 w.heap.size wr v5 acc) ∧ Hid (places cs (ns.drop k) acc = res) ∧ Hid (∀ p ∈ acc, p < nc) ∧ Hid (Below w.heap.size w wr)) (fun _ i _ => n - (intOf i).toNat)
  case atStart => exact ⟨0, [], by omega, rfl, by simp, Own.nil _ _ _ _ _, HR.out, fun p h => by simp at h, Below.refl _ _⟩
  case round =>
    rename_i s5 s11
    obtain ⟨k, acc, hk, rfl, hal, HO, HD, HP, HB⟩ := hrel
    by_cases hlt : k < n
    · have hkn : k < ns.length := by rw [HN.out]; exact hlt
      obtain ⟨b, o, rfl, -, hj⟩ := HX.out (by intro e; subst e; simp at hkn)
      have hd : wr.cell? ⟨b, o + k, none⟩ = some (.string ns[k]!) := by
        have := ((hj k _ (get!_some hkn)).on HB.out) 0 _ rfl
        simpa using this
      have HS := hid ((places_step (cs := cs) (acc := acc) hkn).symm.trans HD.out)
      generalize ns[k]! = nm at hd HS
      clear hj
      have hfl := HFL.out nm
      generalize hf : findC cs nm = f at *
      have HF := hid hf
      clear hf
      by_cases hneg : f < 0
      · go_wp2_with (first | (go_at_call 15; refine (find_is (HV.out.on HB.out) HF.out).mono ?_; rintro e w1 ⟨rfl, hb1⟩; have HB1 := hid (below_on HB.out hb1); clear hb1))
        go_ret
        have he := HS.out
        rw [if_pos (Or.inl hneg)] at he
        subst he
        exact ⟨_, rfl, SlAt.nil _ _ _ _, ⟨fun p h => by simp at h, by simp⟩, HB1.out⟩
      · obtain ⟨at0, rfl⟩ : ∃ at0 : Nat, f = at0 := ⟨f.toNat, by omega⟩
        rw [Int.toNat_natCast] at HS
        have hnn : ¬ ((at0 : Int) < 0) := by omega
        cases hmem : decide (at0 ∈ acc) with
        | true =>
          go_wp2_with (first | (go_at_call 15; refine (find_is (HV.out.on HB.out) HF.out).mono ?_; rintro e w1 ⟨rfl, hb1⟩; have HB1 := hid (below_on HB.out hb1); have HO1 := hid (HO.out.on hb1); clear hb1) | (go_at_call 54; refine (contains_any ((Own.sl HO1.out (fun _ => rfl) (small1 (by omega))).imp (fun _ _ => trivial)) hmem).mono ?_; rintro e w2 ⟨rfl, hw2⟩; subst hw2))
          go_ret
          have he := HS.out
          rw [if_pos (Or.inr (of_decide_eq_true hmem))] at he
          subst he
          exact ⟨_, rfl, SlAt.nil _ _ _ _, ⟨fun p h => by simp at h, by simp⟩, HB1.out⟩
        | false =>
          go_wp2_with (first | (go_at_call 15; refine (find_is (HV.out.on HB.out) HF.out).mono ?_; rintro e w1 ⟨rfl, hb1⟩; have HB1 := hid (below_on HB.out hb1); have HO1 := hid (HO.out.on hb1); clear hb1) | (go_at_call 54; refine (contains_any ((Own.sl HO1.out (fun _ => rfl) (small1 (by omega))).imp (fun _ _ => trivial)) hmem).mono ?_; rintro e w2 ⟨rfl, hw2⟩; subst hw2) | (at_builtin; refine app_any elem3 (fun _ => rfl) (ys := [at0]) (fun x _ c hc => by simp [encN] at hc; subst hc; rfl) rfl _ _ rfl rfl (HO1.out.on ((Below.refl _ _).alloc (Nat.le_refl _) _)) rfl (lit_sl (alloc_block _ _) (fun _ => rfl) rfl rfl (Nat.le_refl _) (by simp)) (small1 (by simp; omega)) (by have := HB1.out.size; simp; omega) ?_; intro v' w3 hown hb3))
          go_roundw
          case rel =>
            refine ⟨k + 1, acc ++ [at0], by omega, by go_num, by simp; omega, hown, ?_, ?_, ?_⟩
            · have he := HS.out
              rw [if_neg (by intro h; rcases h with h | h; · omega
                             · exact of_decide_eq_false hmem h)] at he
              exact he
            · show ∀ p ∈ _, _
              intro p hp
              rcases List.mem_append.1 hp with h | h
              · exact HP.out p h
              · simp at h; subst h; omega
            · exact (HB1.out.alloc HB1.out.size _).trans hb3
          case measure => simp [intOf]; omega
    · have hks : k = n := by omega
      subst hks
      have hd : ns.drop k = [] := List.drop_eq_nil_of_le (by rw [HN.out]; exact Nat.le_refl _)
      rw [hd] at HD
      have he : acc = res := HD.out
      subst he
      go_wp2
      go_ret
      exact ⟨_, rfl, (Own.sl HO.out (fun _ => rfl) (small1 (by omega))).imp (fun _ _ => trivial), ⟨HP.out, by omega⟩, HB.out⟩
end Go.Proofs.Ytoadamimfhjoiaa
