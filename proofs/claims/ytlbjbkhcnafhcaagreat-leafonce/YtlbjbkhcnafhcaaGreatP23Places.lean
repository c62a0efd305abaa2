/-
  What table.placesOf returns, for all names and columns.
  What schema.colsMayBe and schema.noNameTwice return, for all columns.
  What schema.noNameTwice returns, for all lists of columns.
  What schema.Check returns, for all schemas.
-/
import Derived.Test.YtlbjbkhcnafhcaaGreatP22ShelfSort
import Derived.Test.YtlbjbkhcnafhcaaGreatP20SShelf
namespace Go.Proofs.YtlbjbkhcnafhcaaGreat
open Go.RowKit Go.Sort Go.Shelf

def encS (s : ByteArray) : List Value := [.string s]
abbrev NamesAt (w : World) (v : Value) (ns : List ByteArray) : Prop := SlAt any encS 1 w v ns
def places (cs : List Cl) : List ByteArray → List Nat → List Nat
  | [], acc => acc
  | nm :: r, acc => if findC cs nm < 0 ∨ (findC cs nm).toNat ∈ acc then [] else places cs r (acc ++ [(findC cs nm).toNat])
theorem places_step {cs : List Cl} {ns : List ByteArray} {acc : List Nat} {k : Nat} (h : k < ns.length) : places cs (ns.drop k) acc = if findC cs ns[k]! < 0 ∨ (findC cs ns[k]!).toNat ∈ acc then [] else places cs (ns.drop (k + 1)) (acc ++ [(findC cs ns[k]!).toNat]) := by
  have e : ns[k]! = ns[k] := by rw [List.getElem!_eq_getElem?_getD, List.getElem?_eq_getElem h]; rfl
  rw [List.drop_eq_getElem_cons h, e]; rfl
theorem findC_lt (cs : List Cl) (nm : ByteArray) : findC cs nm < cs.length := by
  have gen : ∀ (l : List Cl) (i : Nat), Lib.idxByFrom (fun _ y => isNm nm y) default l i < (i : Int) + l.length := by
    intro l
    induction l with
    | nil => intro i; simp [Lib.idxByFrom]; omega
    | cons c r ih =>
      intro i
      have := ih (i + 1)
      simp only [Lib.idxByFrom, List.length_cons]
      split <;> omega
  have := gen cs 0
  simpa [findC, Lib.idxBy] using this
theorem find_is {v : Value} {cs : List Cl} {nm : ByteArray} {w : World} {f : Int} (hv : ColsAt w v cs) (h : findC cs nm = f) :
    Calls Tryz.prog 99 #[v, .string nm] w fun e w' => e = .returned (.int .i64 f) ∧ Below w.heap.size w w' := by rw [← h]; exact find_any hv
theorem Own.on {α : Type} {enc : α → List Value} {k e B : Nat} {w w' : World} {v : Value} {xs : List α} (h : Own enc k e B w v xs) (hb : Below w.heap.size w w') : Own enc k e B w' v xs :=
  ⟨h.1, h.2.elim Or.inl (fun ⟨g, cap, cur, hv, hg, hblk, r⟩ => Or.inr ⟨g, cap, cur, hv, hg, block_on hblk hb, r⟩)⟩
theorem small1 {n : Nat} (h : n ≤ 4096) : n * bsz 1 ≤ 140737488355328 := by
  have e : bsz 1 = 24 := rfl
  rw [e]; omega
theorem lit_sl {α : Type} {enc : α → List Value} {k : Nat} {w : World} {B n cap : Nat} {C : Array Value} {e : TypeId} {xs : List α} (hb : w.heap[B]? = some (.cells C e (0, 0))) (hk : ∀ x, (enc x).length = k) (hC : C.toList = xs.flatMap enc) (hn : n = xs.length) (hcap : n ≤ cap) (hl : xs.length ≤ 4096) : SlAt (fun b => b = B) enc k w (.slice (some ⟨B, 0, none⟩) n cap) xs := by
  subst hn
  refine ⟨some ⟨B, 0, none⟩, cap, rfl, ⟨hcap, fun e => by cases e⟩, by unfold maxLen; omega, fun _ => ⟨B, 0, rfl, ⟨rfl, by unfold bsz; split <;> omega⟩, fun j x hx i u hu => ?_⟩⟩
  have h := flat_get hk xs j x hx i u hu
  rw [block_cell hb, ← Array.getElem?_toList, hC, Nat.zero_add]; exact h
end Go.Proofs.YtlbjbkhcnafhcaaGreat
namespace Go.Proofs.YtlbjbkhcnafhcaaGreat
open Go.RowKit Go.Sort Go.Shelf

theorem word_call {s : ByteArray} {r : Bool} {w : World} (hs : s.size ≤ maxLen) (h : wordB s = r) : Calls Tryz.prog 68 #[.string s] w fun e w' => e = .returned (.bool r) ∧ w' = w := by rw [← h]; exact word_any hs
theorem colW_word {m : Int} {c : Cl} (h : wordB c.nm = false) : colW m c = false := by simp [colW, h]
theorem colW_low {m : Int} {c : Cl} (h : c.kd < 1) : colW m c = false := by
  have : decide (1 ≤ c.kd) = false := by rw [decide_eq_false_iff_not]; omega
  simp [colW, this]
theorem colW_high {m : Int} {c : Cl} (h : m < c.kd) : colW m c = false := by
  have : decide (c.kd ≤ m) = false := by rw [decide_eq_false_iff_not]; omega
  simp [colW, this]
theorem colW_yes {m : Int} {c : Cl} (h : wordB c.nm = true) (h1 : ¬ c.kd < 1) (h2 : ¬ m < c.kd) : colW m c = true := by
  have e1 : decide (1 ≤ c.kd) = true := by rw [decide_eq_true_eq]; omega
  have e2 : decide (c.kd ≤ m) = true := by rw [decide_eq_true_eq]; omega
  simp [colW, h, e1, e2]
set_option maxHeartbeats 400000 in
theorem wrongP (m : Int) (B : Nat) (w : World) (hB : w.cell? ⟨B, 0, none⟩ = some (.int .i64 m)) :
    PredBelow Tryz.prog 97 #[.pointer (some ⟨B, 0, none⟩)] (fun x : Cl => .agg x.cells.toArray) (fun x => !colW m x) w := fun W x hb => by
  have hBl : B < w.heap.size := block_lt_of_cell hB
  have hc : W.cell? ⟨B, 0, none⟩ = some (.int .i64 m) := (hb.cell (p := ⟨B, 0, none⟩) hBl).trans hB
  have hne : B ≠ W.heap.size := by have := hb.size; omega
  have hbl : B < W.heap.size := by have := hb.size; omega
  have HS := hid x.small
  show Calls Tryz.prog 97 #[.agg #[.string x.nm, .int .i64 x.kd], .pointer (some ⟨B, 0, none⟩)] W fun e w' => e = .returned (.bool (!colW m x)) ∧ Below w.heap.size w w'
  generalize hr : (!colW m x) = r
  have HR := hid hr
  clear hr
  cases hw : wordB x.nm with
  | false =>
    go_enter Tryz.func97, Tryz.ntmps97
    go_wp2_with (go_at_call 68; refine (word_call HS.out hw).mono ?_; rintro e w' ⟨rfl, rfl⟩)
    go_ret
    exact ⟨ret_bool (by rw [← HR.out, colW_word hw]; rfl), hb.alloc hb.size _⟩
  | true =>
    by_cases h1 : x.kd < 1
    · go_enter Tryz.func97, Tryz.ntmps97
      go_wp2_with (go_at_call 68; refine (word_call HS.out hw).mono ?_; rintro e w' ⟨rfl, rfl⟩)
      go_ret
      exact ⟨ret_bool (by rw [← HR.out, colW_low h1]; rfl), hb.alloc hb.size _⟩
    · by_cases h2 : m < x.kd
      · go_enter Tryz.func97, Tryz.ntmps97
        go_wp2_with (go_at_call 68; refine (word_call HS.out hw).mono ?_; rintro e w' ⟨rfl, rfl⟩)
        go_ret
        exact ⟨ret_bool (by rw [← HR.out, colW_high h2]; rfl), hb.alloc hb.size _⟩
      · go_enter Tryz.func97, Tryz.ntmps97
        go_wp2_with (go_at_call 68; refine (word_call HS.out hw).mono ?_; rintro e w' ⟨rfl, rfl⟩)
        go_ret
        exact ⟨ret_bool (by rw [← HR.out, colW_yes hw (by omega) (by omega)]; simp; omega), hb.alloc hb.size _⟩
theorem any_not {α : Type} (p : α → Bool) (l : List α) : (!l.any fun x => !p x) = l.all p := by
  induction l with
  | nil => rfl
  | cons a l ih => rw [List.any_cons, List.all_cons, ← ih]; cases p a <;> simp
theorem kinds_no {cs : List Cl} {m : Int} (h : ¬ (1 ≤ cs.length ∧ cs.length ≤ 4)) : kindsB cs m = false := by simp only [kindsB, decide_eq_false h, Bool.false_and]
set_option maxHeartbeats 400000 in
theorem colsMay_any {v : Value} {cs : List Cl} {m : Int} {w : World} (hv : ColsAt w v cs) :
    Calls Tryz.prog 69 #[v, .int .i64 4, .int .i64 m] w fun e w' => e = .returned (.bool (kindsB cs m)) ∧ Below w.heap.size w w' := by
  obtain ⟨p, cap, rfl, hcap, hmax, hx⟩ := hv
  unfold maxLen at hmax
  generalize hr : kindsB cs m = r
  have HR := hid hr
  clear hr
  by_cases h1 : cs.length < 1
  · have g1 : (cs.length : Int) < 1 := by omega
    clear hx
    go_enter Tryz.func69, Tryz.ntmps69
    go_wp2
    go_ret
    exact ⟨ret_bool ((kinds_no (by omega)).symm.trans HR.out), (Below.refl _ w).alloc (Nat.le_refl _) _⟩
  · have g1 : ¬ (cs.length : Int) < 1 := by omega
    by_cases h2 : 4 < cs.length
    · have g2 : (4 : Int) < (cs.length : Int) := by omega
      clear hx
      go_enter Tryz.func69, Tryz.ntmps69
      go_wp2
      go_ret
      exact ⟨ret_bool ((kinds_no (by omega)).symm.trans HR.out), (Below.refl _ w).alloc (Nat.le_refl _) _⟩
    · have g2 : ¬ (4 : Int) < (cs.length : Int) := by omega
      obtain ⟨b, o, rfl, -, hj⟩ := hx (by intro e; subst e; simp at h1)
      have hb0 : b < w.heap.size := block_lt_of_cell (hj 0 _ (get!_some (by omega)) 0 _ rfl)
      have eg : ∀ args w, (callFunc 97 args).run Tryz.prog w = .ok (.enter 97 args) w := enters_of Tryz.func97 (by kernel_rfl) rfl
      have h := AnyQ.slices_ContainsFunc Tryz.containsC 2 Tryz.isAgg90 Tryz.sizeOf90 Cl.cells (fun _ => rfl) (fun x => !colW m x) 97 #[.pointer (some ⟨w.heap.size, 0, none⟩)] eg b o cs.length cap cs (w.alloc (.cells #[.int .i64 m] 3)) (wrongP m w.heap.size _ (by simp)) (Nat.le_refl _) hmax (by simp; omega) (fun j hjl i u hu => Lib.cell?_alloc_some _ (hj j _ (get!_some hjl) i u hu))
      rw [List.take_length] at h
      have HC := hid h
      have HK : Hid ((!cs.any fun x => !colW m x) = r) := by
        show (!cs.any fun x => !colW m x) = r
        rw [any_not, ← HR.out, kindsB, decide_eq_true (by omega)]; rfl
      clear h hj eg
      generalize (cs.any fun x => !colW m x) = q at HC HK
      generalize cs.length = n at *
      go_enter Tryz.func69, Tryz.ntmps69
      go_wp2_with (go_at_call 98; refine HC.out.mono ?_; rintro e w' ⟨rfl, hb'⟩)
      go_ret
      exact ⟨ret_bool HK.out, below_on ((Below.refl _ w).alloc (Nat.le_refl _) _) hb'⟩
theorem colsMay_is {v : Value} {cs : List Cl} {m : Int} {r : Bool} {w : World} (hv : ColsAt w v cs) (h : kindsB cs m = r) :
    Calls Tryz.prog 69 #[v, .int .i64 4, .int .i64 m] w fun e w' => e = .returned (.bool r) ∧ Below w.heap.size w w' := by rw [← h]; exact colsMay_any hv
end Go.Proofs.YtlbjbkhcnafhcaaGreat
namespace Go.Proofs.YtlbjbkhcnafhcaaGreat
open Go.RowKit Go.Sort Go.Shelf

theorem find_in {cs : List Cl} {nm : ByteArray} : 0 ≤ findC cs nm ↔ nm ∈ cs.map Cl.nm := by
  rw [findC_eq]
  constructor
  · intro h
    apply Classical.byContradiction
    intro hn
    rw [from_neg _ _ _ hn] at h
    omega
  · intro h
    exact from_ge nm _ 0 h
theorem apart_bad {a : List Cl} {c : Cl} {r : List Cl} (h : c.nm ∈ a.map Cl.nm) : apartB (a ++ c :: r) = false := by
  simp only [apartB, decide_eq_false_iff_not, List.map_append, List.map_cons, List.nodup_append]
  rintro ⟨_, _, h3⟩
  exact h3 _ h _ (List.mem_cons_self ..) rfl
theorem apart_step {a : List Cl} {c : Cl} (h : (a.map Cl.nm).Nodup) (hn : c.nm ∉ a.map Cl.nm) : ((a ++ [c]).map Cl.nm).Nodup := by
  rw [List.map_append, List.nodup_append]
  refine ⟨h, by simp, ?_⟩
  intro x hx y hy
  simp at hy
  subst hy
  intro e; subst e; exact hn hx
theorem flat_step {L : List (List Cl)} {k : Nat} (h : k < L.length) : (L.take (k + 1)).flatten = (L.take k).flatten ++ L[k] := by
  rw [List.take_succ_eq_append_getElem h, List.flatten_append, List.flatten_singleton]
theorem mid_split {x : List Cl} {j : Nat} (hj : j < x.length) (a r : List Cl) : a ++ (x ++ r) = (a ++ x.take j) ++ x[j] :: (x.drop (j + 1) ++ r) := by
  have e : x.take j ++ x[j] :: x.drop (j + 1) = x := by rw [← List.drop_eq_getElem_cons hj, List.take_append_drop]
  have e2 : (a ++ x.take j) ++ x[j] :: (x.drop (j + 1) ++ r) = a ++ ((x.take j ++ x[j] :: x.drop (j + 1)) ++ r) := by simp only [List.append_assoc, List.cons_append]
  rw [e2, e]
theorem flat_split {L : List (List Cl)} {k j : Nat} (h : k < L.length) (hj : j < L[k].length) : L.flatten = ((L.take k).flatten ++ L[k].take j) ++ L[k][j] :: (L[k].drop (j + 1) ++ (L.drop (k + 1)).flatten) := by
  have e1 : L.flatten = (L.take k).flatten ++ (L[k] ++ (L.drop (k + 1)).flatten) := by
    conv => lhs; rw [← List.take_append_drop k L]
    rw [List.flatten_append, List.drop_eq_getElem_cons h, List.flatten_cons]
  rw [e1]
  exact mid_split hj _ _
theorem get!_pos' {α : Type} [Inhabited α] {l : List α} {k : Nat} (h : k < l.length) : l[k]! = l[k] := getElem!_pos l k h
set_option maxRecDepth 100000 in
set_option maxHeartbeats 2000000 in
theorem twice_any {v : Value} {hs : List Value} {L : List (List Cl)} {w : World} (hv : SlAt any one 1 w v hs) (hl : hs.length = L.length) (hh : ∀ (j : Nat) h cs, hs[j]? = some h → L[j]? = some cs → ColsAt w h cs) (hsz : L.flatten.length ≤ 4096) :
    Calls Tryz.prog 70 #[v] w fun e w' => e = .returned (.bool (apartB L.flatten)) ∧ Below w.heap.size w w' := by
  obtain ⟨p, cap, rfl, hcap, hmax, hx⟩ := hv
  unfold maxLen at hmax
  generalize hr : apartB L.flatten = r
  have HR := hid hr
  have HX := hid hx
  have HH := hid hh
  have HSZ := hid hsz
  clear hr hx hh hsz
  generalize hn : hs.length = n at *
  have HN := hid hn
  have HL := hid hl
  clear hn hl
  go_enter Tryz.func70, Tryz.ntmps70
  go_wp2_with fail
  go_loopw [3, 10] (fun a i wr => ∃ k : Nat, k ≤ n ∧ i = .int .i64 k ∧ Hid (Below w.heap.size w wr) ∧ Hid (Own Cl.cells 2 90 w.heap.size wr a (L.take k).flatten) ∧ Hid (((L.take k).flatten.map Cl.nm).Nodup)) (fun _ i _ => n - (intOf i).toNat)
  case atStart => exact ⟨0, by omega, rfl, Below.refl _ _, by rw [List.take_zero, List.flatten_nil]; exact Own.nil _ _ _ _ _, by show List.Nodup _; simp⟩
  case round =>
    obtain ⟨k, hk, rfl, HB, HO, HA⟩ := hrel
    by_cases hlt : k < n
    · have hkh : k < hs.length := by rw [HN.out]; exact hlt
      have hkL : k < L.length := by rw [← HL.out]; exact hlt
      obtain ⟨b, o, rfl, -, hj⟩ := HX.out (by intro e; subst e; simp at hkh)
      have hd := head_cell (fun j x hjx => (hj j x hjx).on HB.out) (get!_some hkh)
      have hcol := HH.out k _ _ (get!_some hkh) (List.getElem?_eq_getElem hkL)
      generalize hs[k]! = hd0 at hd hcol
      clear hj
      obtain ⟨p2, cap2, rfl, hcap2, hmax2, hx2⟩ := hcol
      unfold maxLen at hmax2
      have HX2 := hid hx2
      clear hx2
      generalize hq : L[k].length = q at *
      have HQ := hid hq
      clear hq
      go_wp2_with fail
      go_loopw [3, 16] (fun a i wr => ∃ j : Nat, j ≤ q ∧ i = .int .i64 j ∧ Hid (Below w.heap.size w wr) ∧ Hid (Own Cl.cells 2 90 w.heap.size wr a ((L.take k).flatten ++ L[k].take j)) ∧ Hid ((((L.take k).flatten ++ L[k].take j).map Cl.nm).Nodup)) (fun _ i _ => q - (intOf i).toNat)
      case atStart => exact ⟨0, by omega, rfl, HB.out, by rw [List.take_zero, List.append_nil]; exact HO.out, by rw [List.take_zero, List.append_nil]; exact HA.out⟩
      case round =>
        clear HO HA hd
        obtain ⟨j, hjq, rfl, HB2, HO2, HA2⟩ := hrel
        by_cases hjl : j < q
        · have hjc : j < L[k].length := by rw [HQ.out]; exact hjl
          obtain ⟨b2, o2, rfl, -, hj2⟩ := HX2.out (by intro e; rw [e] at hjc; simp at hjc)
          obtain ⟨c0, c1⟩ := col_cells ((hj2 j _ (get!_some hjc)).on HB2.out)
          have HSP := hid (flat_split hkL hjc)
          have HTK : Hid (L[k].take (j + 1) = L[k].take j ++ [L[k][j]]) := by show _ = _; rw [List.take_add_one, List.getElem?_eq_getElem hjc]; rfl
          rw [get!_pos' hjc] at c0 c1
          generalize L[k][j] = c at c0 c1 HSP HTK
          generalize hacc : (L.take k).flatten ++ L[k].take j = acc at HO2 HA2 HSP
          have HACC := hid hacc
          have hal : acc.length ≤ 4096 := by
            have h1 := HSZ.out
            rw [HSP.out, List.length_append] at h1
            omega
          have HAL := hid hal
          have hb2 : acc.length * bsz 2 ≤ 140737488355328 := by unfold bsz; simp; omega
          have HCO := hid ((Own.sl HO2.out cl_len hb2).imp (Q' := any) (fun _ _ => trivial))
          clear hj2 hacc hal hb2
          have hsz : w.heap.size ≤ wr.heap.size := HB2.out.size
          have HE := hid ((Below.refl wr.heap.size wr).alloc (Nat.le_refl _) (.cells #[.string c.nm, .int .i64 c.kd] 90))
          have KC := hid (alloc_block wr (.cells #[.string c.nm, .int .i64 c.kd] 90))
          generalize hf : findC acc c.nm = f
          have HF := hid hf
          by_cases hneg : f < 0
          · have hfn : ¬ (0 : Int) ≤ f := by omega
            have HNI : Hid (c.nm ∉ acc.map Cl.nm) := fun h => by have := find_in.2 h; omega
            clear hf
            go_wp2_with (first
              | (go_at_call 99; refine (find_is (SlAt.on HCO.out HE.out) HF.out).mono ?_; rintro e w2 ⟨rfl, hb2⟩; have HB3 := hid (below_on HE.out hb2); have kc := block_cell (block_on KC.out hb2); clear hb2)
              | (at_builtin; refine app_any elem45 cl_len (fun x _ => cl_cells x) rfl _ _ rfl rfl ((Own.on HO2.out HB3.out).on ((Below.refl _ _).alloc (Nat.le_refl _) _)) rfl (lit_sl (xs := [c]) (alloc_block _ _) cl_len rfl rfl (Nat.le_refl _) (by simp)) (by have := HAL.out; unfold bsz; simp; omega) (by have := HB3.out.size; rw [World.size_alloc]; omega) ?_; intro v3 w3 hown3 hb3))
            go_roundw
            case rel => exact ⟨j + 1, by omega, by go_num, ((HB2.out.trans (HB3.out.mono hsz)).alloc (Nat.le_trans hsz HB3.out.size) _).trans hb3, by rw [HTK.out, ← List.append_assoc, HACC.out]; exact hown3, by rw [HTK.out, ← List.append_assoc, HACC.out]; exact apart_step HA2.out HNI.out⟩
            case measure => simp [intOf]; omega
          · have hfn : (0 : Int) ≤ f := by omega
            have HNI : Hid (c.nm ∈ acc.map Cl.nm) := find_in.1 (by rw [hf]; omega)
            clear hf
            go_wp2_with (first
              | (go_at_call 99; refine (find_is (SlAt.on HCO.out HE.out) HF.out).mono ?_; rintro e w2 ⟨rfl, hb2⟩))
            go_ret
            exact ⟨ret_bool (by rw [← HR.out, HSP.out, apart_bad HNI.out]), HB2.out.trans ((below_on HE.out hb2).mono hsz)⟩
        · have hjs : j = q := by omega
          subst hjs
          go_wp2_with fail
          go_roundw
          case rel =>
            have e : L[k].take j = L[k] := List.take_of_length_le (by rw [HQ.out]; exact Nat.le_refl _)
            rw [e, ← flat_step hkL] at HO2 HA2
            exact ⟨k + 1, by omega, by go_num, HB2.out, HO2.out, HA2.out⟩
          case measure => simp [intOf]; omega
    · have hks : k = n := by omega
      subst hks
      go_wp2_with fail
      go_ret
      refine ⟨ret_bool ?_, HB.out⟩
      have e : L.take k = L := List.take_of_length_le (by rw [← HL.out]; exact Nat.le_refl _)
      rw [← HR.out]
      have := HA.out
      rw [e] at this
      exact (decide_eq_true this).symm
end Go.Proofs.YtlbjbkhcnafhcaaGreat
namespace Go.Proofs.YtlbjbkhcnafhcaaGreat
open Go.RowKit Go.Sort Go.Shelf

theorem twice_is {v : Value} {hs : List Value} {L : List (List Cl)} {w : World} {r : Bool} (hv : SlAt any one 1 w v hs) (hl : hs.length = L.length) (hh : ∀ (j : Nat) h cs, hs[j]? = some h → L[j]? = some cs → ColsAt w h cs) (hsz : L.flatten.length ≤ 4096) (h : apartB L.flatten = r) :
    Calls Tryz.prog 70 #[v] w fun e w' => e = .returned (.bool r) ∧ Below w.heap.size w w' := by rw [← h]; exact twice_any hv hl hh hsz
theorem kinds_len {cs : List Cl} {m : Int} (h : kindsB cs m = true) : 1 ≤ cs.length ∧ cs.length ≤ 4 := by
  simp only [kindsB, Bool.and_eq_true, decide_eq_true_eq] at h; exact h.1
theorem two_sl {w : World} {a b : Value} : SlAt any one 1 (w.alloc (.cells #[a, b] 41)) (.slice (some ⟨w.heap.size, 0, none⟩) 2 2) [a, b] :=
  (lit_sl (C := #[a, b]) (e := 41) (xs := [a, b]) (alloc_block w _) one_len rfl rfl (Nat.le_refl _) (by simp)).imp fun _ _ => trivial
theorem two_cols {w : World} {a b : Value} {ks vs : List Cl} (h1 : ColsAt w a ks) (h2 : ColsAt w b vs) : ∀ (j : Nat) h cs, [a, b][j]? = some h → [ks, vs][j]? = some cs → ColsAt w h cs
  | 0, _, _, e1, e2 => by cases e1; cases e2; exact h1
  | 1, _, _, e1, e2 => by cases e1; cases e2; exact h2
  | j + 2, _, _, e1, _ => by simp at e1
set_option maxRecDepth 100000 in
set_option maxHeartbeats 1000000 in
theorem may_any {v : Value} {s : Sc} {w : World} (hv : ScAt w v s) :
    Calls Tryz.prog 43 #[v] w fun e w' => e = .returned (.bool (mayB s)) ∧ Below w.heap.size w w' := by
  obtain ⟨kv, vv, rfl, h1, h2⟩ := hv
  have HK := hid h1
  have HV := hid h2
  have HS := hid s.small
  obtain ⟨pk, ck, rfl, -⟩ := h1
  obtain ⟨pv, cv, rfl, -⟩ := h2
  generalize s.ks.length = nk at *
  generalize s.vs.length = nv at *
  have HB := hid ((Below.refl w.heap.size w).alloc (Nat.le_refl _) (.cells #[.string s.nm, .slice pk nk ck, .slice pv nv cv] 52))
  have KB := hid (alloc_block w (.cells #[.string s.nm, .slice pk nk ck, .slice pv nv cv] 52))
  rw [mayB]
  generalize g1 : wordB s.nm = a
  generalize g2 : kindsB s.ks 3 = b
  generalize g3 : kindsB s.vs 4 = c
  generalize g4 : apartB (s.ks ++ s.vs) = d
  have G1 := hid g1
  have G2 := hid g2
  have G3 := hid g3
  have G4 : Hid (apartB [s.ks, s.vs].flatten = d) := by show _ = d; rw [← g4]; simp
  clear g1 g2 g3 g4
  have M1 : Hid True := trivial
  cases a with
  | false =>
    go_enter Tryz.func43, Tryz.ntmps43
    go_wp2_with (first
      | (go_at_call 68; refine (word_call HS.out G1.out).mono ?_; rintro e w' ⟨rfl, rfl⟩))
    go_ret
    exact ⟨rfl, HB.out⟩
  | true =>
    cases b with
    | false =>
      go_enter Tryz.func43, Tryz.ntmps43
      go_wp2_with (first
        | (go_at_call 68; refine (word_call HS.out G1.out).mono ?_; rintro e w' ⟨rfl, rfl⟩)
        | (go_at_call 69; refine (colsMay_is (HK.out.on HB.out) G2.out).mono ?_; rintro e w1 ⟨rfl, hb1⟩))
      go_ret
      exact ⟨rfl, below_on HB.out hb1⟩
    | true =>
      cases c with
      | false =>
        go_enter Tryz.func43, Tryz.ntmps43
        go_wp2_with (first
          | (go_at_call 68; refine (word_call HS.out G1.out).mono ?_; rintro e w' ⟨rfl, rfl⟩)
          | (go_at_call 69; have FIRST := M1; refine (colsMay_is (HK.out.on HB.out) G2.out).mono ?_; rintro e w1 ⟨rfl, hb1⟩; have HB1 := hid (below_on HB.out hb1); have kb1 := block_cell (block_on KB.out hb1); clear hb1 M1 FIRST)
          | (go_at_call 69; refine (colsMay_is (HV.out.on HB1.out) G3.out).mono ?_; rintro e w2 ⟨rfl, hb2⟩))
        go_ret
        exact ⟨rfl, below_on HB1.out hb2⟩
      | true =>
        have hlen : [s.ks, s.vs].flatten.length ≤ 4096 := by
          have e1 := kinds_len G2.out
          have e2 := kinds_len G3.out
          simp; omega
        have HLEN := hid hlen
        clear hlen
        go_enter Tryz.func43, Tryz.ntmps43
        go_wp2_with (first
          | (go_at_call 68; refine (word_call HS.out G1.out).mono ?_; rintro e w' ⟨rfl, rfl⟩)
          | (go_at_call 69; have FIRST := M1; refine (colsMay_is (HK.out.on HB.out) G2.out).mono ?_; rintro e w1 ⟨rfl, hb1⟩; have HB1 := hid (below_on HB.out hb1); have KB1 := hid (block_on KB.out hb1); have kb1 := block_cell KB1.out; clear hb1 M1 FIRST)
          | (go_at_call 69; refine (colsMay_is (HV.out.on HB1.out) G3.out).mono ?_; rintro e w2 ⟨rfl, hb2⟩; have HB2 := hid (below_on HB1.out hb2); have kb2 := block_cell (block_on KB1.out hb2); clear hb2 kb1)
          | (go_at_call 70; refine (twice_is (L := [s.ks, s.vs]) two_sl rfl (two_cols (HK.out.on (HB2.out.alloc HB2.out.size _)) (HV.out.on (HB2.out.alloc HB2.out.size _))) HLEN.out G4.out).mono ?_; rintro e w3 ⟨rfl, hb3⟩))
        go_ret
        exact ⟨rfl, below_on (HB2.out.alloc HB2.out.size _) hb3⟩
theorem may_is {v : Value} {s : Sc} {w : World} {r : Bool} (hv : ScAt w v s) (h : mayB s = r) : Calls Tryz.prog 43 #[v] w fun e w' => e = .returned (.bool r) ∧ Below w.heap.size w w' := by rw [← h]; exact may_any hv
theorem ok_no {l : List Sc} (h : ¬ (1 ≤ l.length ∧ l.length ≤ 8)) : checkS l = 50 := by
  unfold checkS; rw [if_neg]; simp only [okS, Bool.and_eq_true, decide_eq_true_eq]; exact fun h' => h h'.1
theorem ok_may {l : List Sc} {k : Nat} (hk : k < l.length) (h : mayB l[k]! = false) : checkS l = 50 := by
  unfold checkS; rw [if_neg]; simp only [okS, Bool.and_eq_true, decide_eq_true_eq, List.all_eq_true]
  intro h'
  have := h'.2.1 _ (List.mem_of_getElem? (get!_some hk))
  rw [h] at this; cases this
theorem ok_at {l : List Sc} {k : Nat} (hk : k < l.length) (h : ¬ atS l l[k]!.nm = (k : Int)) : checkS l = 50 := by
  unfold checkS; rw [if_neg]; simp only [okS, Bool.and_eq_true, decide_eq_true_eq, List.all_eq_true]
  intro h'
  apply h
  rw [getElem!_pos l k hk]
  exact atS_get h'.2.2 hk
theorem ok_yes {l : List Sc} (h : 1 ≤ l.length ∧ l.length ≤ 8) (ha : ∀ k, k < l.length → mayB l[k]! = true ∧ atS l l[k]!.nm = (k : Int)) : checkS l = 0 := by
  refine check_of ⟨h, fun s hs => ?_, ?_⟩
  · obtain ⟨k, hk, rfl⟩ := List.mem_iff_getElem.1 hs
    have := (ha k hk).1
    rwa [getElem!_pos l k hk] at this
  · rw [from_nodup _ 0]
    intro j hj
    have hj' : j < l.length := by simpa using hj
    have := (ha j hj').2
    rw [getElem!_pos l j hj'] at this
    rw [List.getElem_map]
    unfold atS at this
    rw [this]; omega
theorem sh_form {w : World} {h : Sh} {s : Sc} (x : ShIs w h s) : ∃ pk nk ck pv nv cv, h = ⟨s.nm, .slice pk nk ck, .slice pv nv cv⟩ := by
  obtain ⟨nm, kv, vv⟩ := h
  obtain ⟨h1, ⟨pk, ck, h2, -⟩, ⟨pv, cv, h3, -⟩⟩ := x
  cases h1; cases h2; cases h3
  exact ⟨_, _, _, _, _, _, rfl⟩
theorem sh_is {w : World} {h : Sh} {s : Sc} (x : ShIs w h s) : ScAt w (.agg #[.string h.nm, h.kv, h.vv]) s := ⟨h.kv, h.vv, by rw [x.nm], x.ks, x.vs⟩
set_option maxRecDepth 100000 in
set_option maxHeartbeats 1000000 in
theorem scheck_any {v : Value} {l : List Sc} {w : World} (hv : SchsAt w v l) :
    Calls Tryz.prog 20 #[v] w fun e w' => e = .returned (.int .i64 (checkS l)) ∧ Below w.heap.size w w' := by
  have HV := hid hv
  obtain ⟨hs, ⟨p, cap, rfl, hcap, hmax, hx⟩, hh⟩ := hv
  unfold maxLen at hmax
  generalize hr : checkS l = r
  have HR := hid hr
  have HX := hid hx
  have HH := hid hh
  have hl := hh.1
  clear hr hx hh
  generalize hn : hs.length = n at *
  have HN := hid hn
  have HL := hid hl
  clear hn
  by_cases h1 : n < 1
  · have g1 : (n : Int) < 1 := by omega
    go_enter Tryz.func20, Tryz.ntmps20
    go_wp2
    go_ret
    exact ⟨ret_int ((ok_no (by omega)).symm.trans HR.out), Below.refl _ _⟩
  · have g1 : ¬ (n : Int) < 1 := by omega
    by_cases h2 : 8 < n
    · have g2 : (8 : Int) < (n : Int) := by omega
      go_enter Tryz.func20, Tryz.ntmps20
      go_wp2
      go_ret
      exact ⟨ret_int ((ok_no (by omega)).symm.trans HR.out), Below.refl _ _⟩
    · have g2 : ¬ (8 : Int) < (n : Int) := by omega
      obtain ⟨b, o, rfl, -, hj⟩ := HX.out (by intro e; have := HN.out; rw [e] at this; simp at this; omega)
      have HJ := hid hj
      clear hj HX hl
      go_enter Tryz.func20, Tryz.ntmps20
      go_wp2_with fail
      go_loopw [15] (fun i wr => ∃ k : Nat, k ≤ n ∧ i = .int .i64 k ∧ Hid (Below w.heap.size w wr) ∧ Hid (∀ j, j < k → mayB l[j]! = true ∧ atS l l[j]!.nm = (j : Int))) (fun i _ => n - (intOf i).toNat)
      case atStart => exact ⟨0, by omega, rfl, Below.refl _ _, fun j h => absurd h (Nat.not_lt_zero _)⟩
      case round =>
        obtain ⟨k, hk, rfl, HB, HA⟩ := hrel
        by_cases hlt : k < n
        · have hkh : k < hs.length := by rw [HN.out]; exact hlt
          have hkl : k < l.length := by rw [← HL.out]; exact hlt
          obtain ⟨c0, c1, c2⟩ := sh_cells ((HJ.out k _ (get!_some hkh)).on HB.out)
          have hsi := HH.out.2 k _ _ (get!_some hkh) (get!_some hkl)
          generalize hs[k]! = hd at c0 c1 c2 hsi
          have hsc := sh_is hsi
          obtain ⟨pk, nk, ck, pv, nv, cv, rfl⟩ := sh_form hsi
          dsimp only at c0 c1 c2 hsc
          generalize hlk : l[k]! = s at *
          have HLK := hid hlk
          have HSC := hid hsc
          clear hsi hsc hlk
          have hsz : w.heap.size ≤ wr.heap.size := HB.out.size
          have HE := hid (HB.out.alloc hsz (.cells #[.string s.nm, .slice pk nk ck, .slice pv nv cv] 52))
          have KE := hid (alloc_block wr (.cells #[.string s.nm, .slice pk nk ck, .slice pv nv cv] 52))
          have M1 : Hid True := trivial
          cases hm : mayB s with
          | false =>
            go_wp2_with (first
              | (go_at_call 43; refine (may_is (HSC.out.on HE.out) hm).mono ?_; rintro e w1 ⟨rfl, hb1⟩))
            go_ret
            exact ⟨ret_int ((ok_may hkl (by rw [HLK.out]; exact hm)).symm.trans HR.out), below_on HE.out hb1⟩
          | true =>
            generalize hz : atS l s.nm = z
            have HZ := hid hz
            clear hz
            by_cases he : z = (k : Int)
            · subst he
              go_wp2_with (first
                | (go_at_call 43; refine (may_is (HSC.out.on HE.out) hm).mono ?_; rintro e w1 ⟨rfl, hb1⟩; have HB1 := hid (below_on HE.out hb1); have kb1 := block_cell (block_on KE.out hb1); clear hb1)
                | (go_at_call 44; refine (place_is (HV.out.on HB1.out) HZ.out).mono ?_; rintro e w2 ⟨rfl, hb2⟩))
              go_roundw
              case rel =>
                refine ⟨k + 1, by omega, by go_num, below_on HB1.out hb2, fun j h => ?_⟩
                by_cases e : j = k
                · subst e; rw [HLK.out]; exact ⟨hm, HZ.out⟩
                · exact HA.out j (by omega)
              case measure => simp [intOf]; omega
            · have hne : (z != (k : Int)) = true := by simpa using he
              have HEE := hid he
              clear he
              go_wp2_with (first
                | (go_at_call 43; refine (may_is (HSC.out.on HE.out) hm).mono ?_; rintro e w1 ⟨rfl, hb1⟩; have HB1 := hid (below_on HE.out hb1); have kb1 := block_cell (block_on KE.out hb1); clear hb1)
                | (go_at_call 44; refine (place_is (HV.out.on HB1.out) HZ.out).mono ?_; rintro e w2 ⟨rfl, hb2⟩))
              go_ret
              exact ⟨ret_int ((ok_at hkl (by rw [HLK.out, HZ.out]; exact HEE.out)).symm.trans HR.out), below_on HB1.out hb2⟩
        · have hks : k = n := by omega
          subst hks
          go_wp2
          go_ret
          exact ⟨ret_int ((ok_yes (by have := HL.out; omega) (by rw [← HL.out]; exact HA.out)).symm.trans HR.out), HB.out⟩
theorem scheck_is {v : Value} {l : List Sc} {w : World} {r : Int} (hv : SchsAt w v l) (h : checkS l = r) : Calls Tryz.prog 20 #[v] w fun e w' => e = .returned (.int .i64 r) ∧ Below w.heap.size w w' := by rw [← h]; exact scheck_any hv
end Go.Proofs.YtlbjbkhcnafhcaaGreat
