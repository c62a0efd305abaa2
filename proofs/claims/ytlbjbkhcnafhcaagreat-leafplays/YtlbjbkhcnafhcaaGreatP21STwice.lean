/-
  What schema.noNameTwice returns, for all lists of columns.
  What schema.Check returns, for all schemas.
  What table.Same returns, for every two tables.
  What the reference's Valid and Compare return, for every input: what the program's do.
  What the reference's Row, SameCols and Same return, for all rows, columns and tables.
  What the reference's Same returns, for every two tables.
-/
import Derived.Test.YtlbjbkhcnafhcaaGreatP20ShelfSort
import Derived.Test.YtlbjbkhcnafhcaaGreatP02Cmp
import Derived.Deep.Light
namespace Go.Proofs.YtlbjbkhcnafhcaaGreat
open Go.RowKit Go.Sort Go.Shelf

theorem find_in {cs : List Cl} {nm : ByteArray} : 0 ≤ findC cs nm ↔ nm ∈ cs.map Cl.nm := by
  rw [findC_eq]
  constructor
  · intro h
    apply Classical.byContradiction
    intro hn
    rw [from_neg _ _ _ hn] at h
    omega
  · intro h
    exact from_ge nm _ 0 h
theorem apart_bad {a : List Cl} {c : Cl} {r : List Cl} (h : c.nm ∈ a.map Cl.nm) : apartB (a ++ c :: r) = false := by
  simp only [apartB, decide_eq_false_iff_not, List.map_append, List.map_cons, List.nodup_append]
  rintro ⟨_, _, h3⟩
  exact h3 _ h _ (List.mem_cons_self ..) rfl
theorem apart_step {a : List Cl} {c : Cl} (h : (a.map Cl.nm).Nodup) (hn : c.nm ∉ a.map Cl.nm) : ((a ++ [c]).map Cl.nm).Nodup := by
  rw [List.map_append, List.nodup_append]
  refine ⟨h, by simp, ?_⟩
  intro x hx y hy
  simp at hy
  subst hy
  intro e; subst e; exact hn hx
theorem flat_step {L : List (List Cl)} {k : Nat} (h : k < L.length) : (L.take (k + 1)).flatten = (L.take k).flatten ++ L[k] := by
  rw [List.take_succ_eq_append_getElem h, List.flatten_append, List.flatten_singleton]
theorem mid_split {x : List Cl} {j : Nat} (hj : j < x.length) (a r : List Cl) : a ++ (x ++ r) = (a ++ x.take j) ++ x[j] :: (x.drop (j + 1) ++ r) := by
  have e : x.take j ++ x[j] :: x.drop (j + 1) = x := by rw [← List.drop_eq_getElem_cons hj, List.take_append_drop]
  have e2 : (a ++ x.take j) ++ x[j] :: (x.drop (j + 1) ++ r) = a ++ ((x.take j ++ x[j] :: x.drop (j + 1)) ++ r) := by simp only [List.append_assoc, List.cons_append]
  rw [e2, e]
theorem flat_split {L : List (List Cl)} {k j : Nat} (h : k < L.length) (hj : j < L[k].length) : L.flatten = ((L.take k).flatten ++ L[k].take j) ++ L[k][j] :: (L[k].drop (j + 1) ++ (L.drop (k + 1)).flatten) := by
  have e1 : L.flatten = (L.take k).flatten ++ (L[k] ++ (L.drop (k + 1)).flatten) := by
    conv => lhs; rw [← List.take_append_drop k L]
    rw [List.flatten_append, List.drop_eq_getElem_cons h, List.flatten_cons]
  rw [e1]
  exact mid_split hj _ _
theorem get!_pos' {α : Type} [Inhabited α] {l : List α} {k : Nat} (h : k < l.length) : l[k]! = l[k] := getElem!_pos l k h
set_option maxRecDepth 100000 in
set_option maxHeartbeats 2000000 in
theorem twice_any {v : Value} {hs : List Value} {L : List (List Cl)} {w : World} (hv : SlAt any one 1 w v hs) (hl : hs.length = L.length) (hh : ∀ (j : Nat) h cs, hs[j]? = some h → L[j]? = some cs → ColsAt w h cs) (hsz : L.flatten.length ≤ 4096) :
    Calls Tryz.prog 70 #[v] w fun e w' => e = .returned (.bool (apartB L.flatten)) ∧ Below w.heap.size w w' := by
  obtain ⟨p, cap, rfl, hcap, hmax, hx⟩ := hv
  unfold maxLen at hmax
  generalize hr : apartB L.flatten = r
  have HR := hid hr
  have HX := hid hx
  have HH := hid hh
  have HSZ := hid hsz
  clear hr hx hh hsz
  generalize hn : hs.length = n at *
  have HN := hid hn
  have HL := hid hl
  clear hn hl
  go_enter Tryz.func70, Tryz.ntmps70
  go_wp2_with fail
  go_loopw [3, 10] (fun a i wr => ∃ k : Nat, k ≤ n ∧ i = .int .i64 k ∧ Hid (Below w.heap.size w wr) ∧ Hid (Own Cl.cells 2 90 w.heap.size wr a (L.take k).flatten) ∧ Hid (((L.take k).flatten.map Cl.nm).Nodup)) (fun _ i _ => n - (intOf i).toNat)
  case atStart => exact ⟨0, by omega, rfl, Below.refl _ _, by rw [List.take_zero, List.flatten_nil]; exact Own.nil _ _ _ _ _, by show List.Nodup _; simp⟩
  case round =>
    obtain ⟨k, hk, rfl, HB, HO, HA⟩ := hrel
    by_cases hlt : k < n
    · have hkh : k < hs.length := by rw [HN.out]; exact hlt
      have hkL : k < L.length := by rw [← HL.out]; exact hlt
      obtain ⟨b, o, rfl, -, hj⟩ := HX.out (by intro e; subst e; simp at hkh)
      have hd := head_cell (fun j x hjx => (hj j x hjx).on HB.out) (get!_some hkh)
      have hcol := HH.out k _ _ (get!_some hkh) (List.getElem?_eq_getElem hkL)
      generalize hs[k]! = hd0 at hd hcol
      clear hj
      obtain ⟨p2, cap2, rfl, hcap2, hmax2, hx2⟩ := hcol
      unfold maxLen at hmax2
      have HX2 := hid hx2
      clear hx2
      generalize hq : L[k].length = q at *
      have HQ := hid hq
      clear hq
      go_wp2_with fail
      go_loopw [3, 16] (fun a i wr => ∃ j : Nat, j ≤ q ∧ i = .int .i64 j ∧ Hid (Below w.heap.size w wr) ∧ Hid (Own Cl.cells 2 90 w.heap.size wr a ((L.take k).flatten ++ L[k].take j)) ∧ Hid ((((L.take k).flatten ++ L[k].take j).map Cl.nm).Nodup)) (fun _ i _ => q - (intOf i).toNat)
      case atStart => exact ⟨0, by omega, rfl, HB.out, by rw [List.take_zero, List.append_nil]; exact HO.out, by rw [List.take_zero, List.append_nil]; exact HA.out⟩
      case round =>
        clear HO HA hd
        obtain ⟨j, hjq, rfl, HB2, HO2, HA2⟩ := hrel
        by_cases hjl : j < q
        · have hjc : j < L[k].length := by rw [HQ.out]; exact hjl
          obtain ⟨b2, o2, rfl, -, hj2⟩ := HX2.out (by intro e; rw [e] at hjc; simp at hjc)
          obtain ⟨c0, c1⟩ := col_cells ((hj2 j _ (get!_some hjc)).on HB2.out)
          have HSP := hid (flat_split hkL hjc)
          have HTK : Hid (L[k].take (j + 1) = L[k].take j ++ [L[k][j]]) := by show _ = _; rw [List.take_add_one, List.getElem?_eq_getElem hjc]; rfl
          rw [get!_pos' hjc] at c0 c1
          generalize L[k][j] = c at c0 c1 HSP HTK
          generalize hacc : (L.take k).flatten ++ L[k].take j = acc at HO2 HA2 HSP
          have HACC := hid hacc
          have hal : acc.length ≤ 4096 := by
            have h1 := HSZ.out
            rw [HSP.out, List.length_append] at h1
            omega
          have HAL := hid hal
          have hb2 : acc.length * bsz 2 ≤ 140737488355328 := by unfold bsz; simp; omega
          have HCO := hid ((Own.sl HO2.out cl_len hb2).imp (Q' := any) (fun _ _ => trivial))
          clear hj2 hacc hal hb2
          have hsz : w.heap.size ≤ wr.heap.size := HB2.out.size
          have HE := hid ((Below.refl wr.heap.size wr).alloc (Nat.le_refl _) (.cells #[.string c.nm, .int .i64 c.kd] 90))
          have KC := hid (alloc_block wr (.cells #[.string c.nm, .int .i64 c.kd] 90))
          generalize hf : findC acc c.nm = f
          have HF := hid hf
          by_cases hneg : f < 0
          · have hfn : ¬ (0 : Int) ≤ f := by omega
            have HNI : Hid (c.nm ∉ acc.map Cl.nm) := fun h => by have := find_in.2 h; omega
            clear hf
            go_wp2_with (first
              | (go_at_call 99; refine (find_is (SlAt.on HCO.out HE.out) HF.out).mono ?_; rintro e w2 ⟨rfl, hb2⟩; have HB3 := hid (below_on HE.out hb2); have kc := block_cell (block_on KC.out hb2); clear hb2)
              | (at_builtin; refine app_any elem45 cl_len (fun x _ => cl_cells x) rfl _ _ rfl rfl ((Own.on HO2.out HB3.out).on ((Below.refl _ _).alloc (Nat.le_refl _) _)) rfl (lit_sl (xs := [c]) (alloc_block _ _) cl_len rfl rfl (Nat.le_refl _) (by simp)) (by have := HAL.out; unfold bsz; simp; omega) (by have := HB3.out.size; rw [World.size_alloc]; omega) ?_; intro v3 w3 hown3 hb3))
            go_roundw
            case rel => exact ⟨j + 1, by omega, by go_num, ((HB2.out.trans (HB3.out.mono hsz)).alloc (Nat.le_trans hsz HB3.out.size) _).trans hb3, by rw [HTK.out, ← List.append_assoc, HACC.out]; exact hown3, by rw [HTK.out, ← List.append_assoc, HACC.out]; exact apart_step HA2.out HNI.out⟩
            case measure => simp [intOf]; omega
          · have hfn : (0 : Int) ≤ f := by omega
            have HNI : Hid (c.nm ∈ acc.map Cl.nm) := find_in.1 (by rw [hf]; omega)
            clear hf
            go_wp2_with (first
              | (go_at_call 99; refine (find_is (SlAt.on HCO.out HE.out) HF.out).mono ?_; rintro e w2 ⟨rfl, hb2⟩))
            go_ret
            exact ⟨ret_bool (by rw [← HR.out, HSP.out, apart_bad HNI.out]), HB2.out.trans ((below_on HE.out hb2).mono hsz)⟩
        · have hjs : j = q := by omega
          subst hjs
          go_wp2_with fail
          go_roundw
          case rel =>
            have e : L[k].take j = L[k] := List.take_of_length_le (by rw [HQ.out]; exact Nat.le_refl _)
            rw [e, ← flat_step hkL] at HO2 HA2
            exact ⟨k + 1, by omega, by go_num, HB2.out, HO2.out, HA2.out⟩
          case measure => simp [intOf]; omega
    · have hks : k = n := by omega
      subst hks
      go_wp2_with fail
      go_ret
      refine ⟨ret_bool ?_, HB.out⟩
      have e : L.take k = L := List.take_of_length_le (by rw [← HL.out]; exact Nat.le_refl _)
      rw [← HR.out]
      have := HA.out
      rw [e] at this
      exact (decide_eq_true this).symm
end Go.Proofs.YtlbjbkhcnafhcaaGreat
namespace Go.Proofs.YtlbjbkhcnafhcaaGreat
open Go.RowKit Go.Sort Go.Shelf

theorem twice_is {v : Value} {hs : List Value} {L : List (List Cl)} {w : World} {r : Bool} (hv : SlAt any one 1 w v hs) (hl : hs.length = L.length) (hh : ∀ (j : Nat) h cs, hs[j]? = some h → L[j]? = some cs → ColsAt w h cs) (hsz : L.flatten.length ≤ 4096) (h : apartB L.flatten = r) :
    Calls Tryz.prog 70 #[v] w fun e w' => e = .returned (.bool r) ∧ Below w.heap.size w w' := by rw [← h]; exact twice_any hv hl hh hsz
theorem kinds_len {cs : List Cl} {m : Int} (h : kindsB cs m = true) : 1 ≤ cs.length ∧ cs.length ≤ 4 := by
  simp only [kindsB, Bool.and_eq_true, decide_eq_true_eq] at h; exact h.1
theorem two_sl {w : World} {a b : Value} : SlAt any one 1 (w.alloc (.cells #[a, b] 41)) (.slice (some ⟨w.heap.size, 0, none⟩) 2 2) [a, b] :=
  (lit_sl (C := #[a, b]) (e := 41) (xs := [a, b]) (alloc_block w _) one_len rfl rfl (Nat.le_refl _) (by simp)).imp fun _ _ => trivial
theorem two_cols {w : World} {a b : Value} {ks vs : List Cl} (h1 : ColsAt w a ks) (h2 : ColsAt w b vs) : ∀ (j : Nat) h cs, [a, b][j]? = some h → [ks, vs][j]? = some cs → ColsAt w h cs
  | 0, _, _, e1, e2 => by cases e1; cases e2; exact h1
  | 1, _, _, e1, e2 => by cases e1; cases e2; exact h2
  | j + 2, _, _, e1, _ => by simp at e1
set_option maxRecDepth 100000 in
set_option maxHeartbeats 1000000 in
theorem may_any {v : Value} {s : Sc} {w : World} (hv : ScAt w v s) :
    Calls Tryz.prog 43 #[v] w fun e w' => e = .returned (.bool (mayB s)) ∧ Below w.heap.size w w' := by
  obtain ⟨kv, vv, rfl, h1, h2⟩ := hv
  have HK := hid h1
  have HV := hid h2
  have HS := hid s.small
  obtain ⟨pk, ck, rfl, -⟩ := h1
  obtain ⟨pv, cv, rfl, -⟩ := h2
  generalize s.ks.length = nk at *
  generalize s.vs.length = nv at *
  have HB := hid ((Below.refl w.heap.size w).alloc (Nat.le_refl _) (.cells #[.string s.nm, .slice pk nk ck, .slice pv nv cv] 52))
  have KB := hid (alloc_block w (.cells #[.string s.nm, .slice pk nk ck, .slice pv nv cv] 52))
  rw [mayB]
  generalize g1 : wordB s.nm = a
  generalize g2 : kindsB s.ks 3 = b
  generalize g3 : kindsB s.vs 4 = c
  generalize g4 : apartB (s.ks ++ s.vs) = d
  have G1 := hid g1
  have G2 := hid g2
  have G3 := hid g3
  have G4 : Hid (apartB [s.ks, s.vs].flatten = d) := by show _ = d; rw [← g4]; simp
  clear g1 g2 g3 g4
  have M1 : Hid True := trivial
  cases a with
  | false =>
    go_enter Tryz.func43, Tryz.ntmps43
    go_wp2_with (first
      | (go_at_call 68; refine (word_call HS.out G1.out).mono ?_; rintro e w' ⟨rfl, rfl⟩))
    go_ret
    exact ⟨rfl, HB.out⟩
  | true =>
    cases b with
    | false =>
      go_enter Tryz.func43, Tryz.ntmps43
      go_wp2_with (first
        | (go_at_call 68; refine (word_call HS.out G1.out).mono ?_; rintro e w' ⟨rfl, rfl⟩)
        | (go_at_call 69; refine (colsMay_is (HK.out.on HB.out) G2.out).mono ?_; rintro e w1 ⟨rfl, hb1⟩))
      go_ret
      exact ⟨rfl, below_on HB.out hb1⟩
    | true =>
      cases c with
      | false =>
        go_enter Tryz.func43, Tryz.ntmps43
        go_wp2_with (first
          | (go_at_call 68; refine (word_call HS.out G1.out).mono ?_; rintro e w' ⟨rfl, rfl⟩)
          | (go_at_call 69; have FIRST := M1; refine (colsMay_is (HK.out.on HB.out) G2.out).mono ?_; rintro e w1 ⟨rfl, hb1⟩; have HB1 := hid (below_on HB.out hb1); have kb1 := block_cell (block_on KB.out hb1); clear hb1 M1 FIRST)
          | (go_at_call 69; refine (colsMay_is (HV.out.on HB1.out) G3.out).mono ?_; rintro e w2 ⟨rfl, hb2⟩))
        go_ret
        exact ⟨rfl, below_on HB1.out hb2⟩
      | true =>
        have hlen : [s.ks, s.vs].flatten.length ≤ 4096 := by
          have e1 := kinds_len G2.out
          have e2 := kinds_len G3.out
          simp; omega
        have HLEN := hid hlen
        clear hlen
        go_enter Tryz.func43, Tryz.ntmps43
        go_wp2_with (first
          | (go_at_call 68; refine (word_call HS.out G1.out).mono ?_; rintro e w' ⟨rfl, rfl⟩)
          | (go_at_call 69; have FIRST := M1; refine (colsMay_is (HK.out.on HB.out) G2.out).mono ?_; rintro e w1 ⟨rfl, hb1⟩; have HB1 := hid (below_on HB.out hb1); have KB1 := hid (block_on KB.out hb1); have kb1 := block_cell KB1.out; clear hb1 M1 FIRST)
          | (go_at_call 69; refine (colsMay_is (HV.out.on HB1.out) G3.out).mono ?_; rintro e w2 ⟨rfl, hb2⟩; have HB2 := hid (below_on HB1.out hb2); have kb2 := block_cell (block_on KB1.out hb2); clear hb2 kb1)
          | (go_at_call 70; refine (twice_is (L := [s.ks, s.vs]) two_sl rfl (two_cols (HK.out.on (HB2.out.alloc HB2.out.size _)) (HV.out.on (HB2.out.alloc HB2.out.size _))) HLEN.out G4.out).mono ?_; rintro e w3 ⟨rfl, hb3⟩))
        go_ret
        exact ⟨rfl, below_on (HB2.out.alloc HB2.out.size _) hb3⟩
theorem may_is {v : Value} {s : Sc} {w : World} {r : Bool} (hv : ScAt w v s) (h : mayB s = r) : Calls Tryz.prog 43 #[v] w fun e w' => e = .returned (.bool r) ∧ Below w.heap.size w w' := by rw [← h]; exact may_any hv
theorem ok_no {l : List Sc} (h : ¬ (1 ≤ l.length ∧ l.length ≤ 8)) : checkS l = 50 := by
  unfold checkS; rw [if_neg]; simp only [okS, Bool.and_eq_true, decide_eq_true_eq]; exact fun h' => h h'.1
theorem ok_may {l : List Sc} {k : Nat} (hk : k < l.length) (h : mayB l[k]! = false) : checkS l = 50 := by
  unfold checkS; rw [if_neg]; simp only [okS, Bool.and_eq_true, decide_eq_true_eq, List.all_eq_true]
  intro h'
  have := h'.2.1 _ (List.mem_of_getElem? (get!_some hk))
  rw [h] at this; cases this
theorem ok_at {l : List Sc} {k : Nat} (hk : k < l.length) (h : ¬ atS l l[k]!.nm = (k : Int)) : checkS l = 50 := by
  unfold checkS; rw [if_neg]; simp only [okS, Bool.and_eq_true, decide_eq_true_eq, List.all_eq_true]
  intro h'
  apply h
  rw [getElem!_pos l k hk]
  exact atS_get h'.2.2 hk
theorem ok_yes {l : List Sc} (h : 1 ≤ l.length ∧ l.length ≤ 8) (ha : ∀ k, k < l.length → mayB l[k]! = true ∧ atS l l[k]!.nm = (k : Int)) : checkS l = 0 := by
  refine check_of ⟨h, fun s hs => ?_, ?_⟩
  · obtain ⟨k, hk, rfl⟩ := List.mem_iff_getElem.1 hs
    have := (ha k hk).1
    rwa [getElem!_pos l k hk] at this
  · rw [from_nodup _ 0]
    intro j hj
    have hj' : j < l.length := by simpa using hj
    have := (ha j hj').2
    rw [getElem!_pos l j hj'] at this
    rw [List.getElem_map]
    unfold atS at this
    rw [this]; omega
theorem sh_form {w : World} {h : Sh} {s : Sc} (x : ShIs w h s) : ∃ pk nk ck pv nv cv, h = ⟨s.nm, .slice pk nk ck, .slice pv nv cv⟩ := by
  obtain ⟨nm, kv, vv⟩ := h
  obtain ⟨h1, ⟨pk, ck, h2, -⟩, ⟨pv, cv, h3, -⟩⟩ := x
  cases h1; cases h2; cases h3
  exact ⟨_, _, _, _, _, _, rfl⟩
theorem sh_is {w : World} {h : Sh} {s : Sc} (x : ShIs w h s) : ScAt w (.agg #[.string h.nm, h.kv, h.vv]) s := ⟨h.kv, h.vv, by rw [x.nm], x.ks, x.vs⟩
set_option maxRecDepth 100000 in
set_option maxHeartbeats 1000000 in
theorem scheck_any {v : Value} {l : List Sc} {w : World} (hv : SchsAt w v l) :
    Calls Tryz.prog 20 #[v] w fun e w' => e = .returned (.int .i64 (checkS l)) ∧ Below w.heap.size w w' := by
  have HV := hid hv
  obtain ⟨hs, ⟨p, cap, rfl, hcap, hmax, hx⟩, hh⟩ := hv
  unfold maxLen at hmax
  generalize hr : checkS l = r
  have HR := hid hr
  have HX := hid hx
  have HH := hid hh
  have hl := hh.1
  clear hr hx hh
  generalize hn : hs.length = n at *
  have HN := hid hn
  have HL := hid hl
  clear hn
  by_cases h1 : n < 1
  · have g1 : (n : Int) < 1 := by omega
    go_enter Tryz.func20, Tryz.ntmps20
    go_wp2
    go_ret
    exact ⟨ret_int ((ok_no (by omega)).symm.trans HR.out), Below.refl _ _⟩
  · have g1 : ¬ (n : Int) < 1 := by omega
    by_cases h2 : 8 < n
    · have g2 : (8 : Int) < (n : Int) := by omega
      go_enter Tryz.func20, Tryz.ntmps20
      go_wp2
      go_ret
      exact ⟨ret_int ((ok_no (by omega)).symm.trans HR.out), Below.refl _ _⟩
    · have g2 : ¬ (8 : Int) < (n : Int) := by omega
      obtain ⟨b, o, rfl, -, hj⟩ := HX.out (by intro e; have := HN.out; rw [e] at this; simp at this; omega)
      have HJ := hid hj
      clear hj HX hl
      go_enter Tryz.func20, Tryz.ntmps20
      go_wp2_with fail
      go_loopw [15] (fun i wr => ∃ k : Nat, k ≤ n ∧ i = .int .i64 k ∧ Hid (Below w.heap.size w wr) ∧ Hid (∀ j, j < k → mayB l[j]! = true ∧ atS l l[j]!.nm = (j : Int))) (fun i _ => n - (intOf i).toNat)
      case atStart => exact ⟨0, by omega, rfl, Below.refl _ _, fun j h => absurd h (Nat.not_lt_zero _)⟩
      case round =>
        obtain ⟨k, hk, rfl, HB, HA⟩ := hrel
        by_cases hlt : k < n
        · have hkh : k < hs.length := by rw [HN.out]; exact hlt
          have hkl : k < l.length := by rw [← HL.out]; exact hlt
          obtain ⟨c0, c1, c2⟩ := sh_cells ((HJ.out k _ (get!_some hkh)).on HB.out)
          have hsi := HH.out.2 k _ _ (get!_some hkh) (get!_some hkl)
          generalize hs[k]! = hd at c0 c1 c2 hsi
          have hsc := sh_is hsi
          obtain ⟨pk, nk, ck, pv, nv, cv, rfl⟩ := sh_form hsi
          dsimp only at c0 c1 c2 hsc
          generalize hlk : l[k]! = s at *
          have HLK := hid hlk
          have HSC := hid hsc
          clear hsi hsc hlk
          have hsz : w.heap.size ≤ wr.heap.size := HB.out.size
          have HE := hid (HB.out.alloc hsz (.cells #[.string s.nm, .slice pk nk ck, .slice pv nv cv] 52))
          have KE := hid (alloc_block wr (.cells #[.string s.nm, .slice pk nk ck, .slice pv nv cv] 52))
          have M1 : Hid True := trivial
          cases hm : mayB s with
          | false =>
            go_wp2_with (first
              | (go_at_call 43; refine (may_is (HSC.out.on HE.out) hm).mono ?_; rintro e w1 ⟨rfl, hb1⟩))
            go_ret
            exact ⟨ret_int ((ok_may hkl (by rw [HLK.out]; exact hm)).symm.trans HR.out), below_on HE.out hb1⟩
          | true =>
            generalize hz : atS l s.nm = z
            have HZ := hid hz
            clear hz
            by_cases he : z = (k : Int)
            · subst he
              go_wp2_with (first
                | (go_at_call 43; refine (may_is (HSC.out.on HE.out) hm).mono ?_; rintro e w1 ⟨rfl, hb1⟩; have HB1 := hid (below_on HE.out hb1); have kb1 := block_cell (block_on KE.out hb1); clear hb1)
                | (go_at_call 44; refine (place_is (HV.out.on HB1.out) HZ.out).mono ?_; rintro e w2 ⟨rfl, hb2⟩))
              go_roundw
              case rel =>
                refine ⟨k + 1, by omega, by go_num, below_on HB1.out hb2, fun j h => ?_⟩
                by_cases e : j = k
                · subst e; rw [HLK.out]; exact ⟨hm, HZ.out⟩
                · exact HA.out j (by omega)
              case measure => simp [intOf]; omega
            · have hne : (z != (k : Int)) = true := by simpa using he
              have HEE := hid he
              clear he
              go_wp2_with (first
                | (go_at_call 43; refine (may_is (HSC.out.on HE.out) hm).mono ?_; rintro e w1 ⟨rfl, hb1⟩; have HB1 := hid (below_on HE.out hb1); have kb1 := block_cell (block_on KE.out hb1); clear hb1)
                | (go_at_call 44; refine (place_is (HV.out.on HB1.out) HZ.out).mono ?_; rintro e w2 ⟨rfl, hb2⟩))
              go_ret
              exact ⟨ret_int ((ok_at hkl (by rw [HLK.out, HZ.out]; exact HEE.out)).symm.trans HR.out), below_on HB1.out hb2⟩
        · have hks : k = n := by omega
          subst hks
          go_wp2
          go_ret
          exact ⟨ret_int ((ok_yes (by have := HL.out; omega) (by rw [← HL.out]; exact HA.out)).symm.trans HR.out), HB.out⟩
theorem scheck_is {v : Value} {l : List Sc} {w : World} {r : Int} (hv : SchsAt w v l) (h : checkS l = r) : Calls Tryz.prog 20 #[v] w fun e w' => e = .returned (.int .i64 r) ∧ Below w.heap.size w w' := by rw [← h]; exact scheck_any hv
end Go.Proofs.YtlbjbkhcnafhcaaGreat
namespace Go.Proofs.YtlbjbkhcnafhcaaGreat
open Go.RowKit Go.Sort Go.Shelf

theorem neqV : NeqAt Tryz.prog 40 (fun x : Vl => .agg x.cells.toArray) eqL := by
  refine ⟨fun x y w => ?_, GuardAt.agg _ (by kernel_rfl)⟩
  have he := eql24 x.k x.n x.s x.h0 x.h1 x.h2 x.h3 x.h4 x.h5 x.h6 x.h7 y.k y.n y.s y.h0 y.h1 y.h2 y.h3 y.h4 y.h5 y.h6 y.h7 w
  show Sem.run Tryz.prog (binOp .neq 40 x.val y.val) w = _
  rw [show eqL x y = eqV x.k x.n x.s x.h0 x.h1 x.h2 x.h3 x.h4 x.h5 x.h6 x.h7 y.k y.n y.s y.h0 y.h1 y.h2 y.h3 y.h4 y.h5 y.h6 y.h7 from rfl]
  generalize eqV x.k x.n x.s x.h0 x.h1 x.h2 x.h3 x.h4 x.h5 x.h6 x.h7 y.k y.n y.s y.h0 y.h1 y.h2 y.h3 y.h4 y.h5 y.h6 y.h7 = r at he ⊢
  have he' : Sem.run Tryz.prog (Op.equalIn Op.maxDepth 40 x.val y.val) w = .ok r w := he
  simp [binOp, Op.equal, he']
theorem neqC : NeqAt Tryz.prog 90 (fun x : Cl => .agg x.cells.toArray) eqC := by
  refine ⟨fun x y w => ?_, GuardAt.agg _ (by kernel_rfl)⟩
  have u3 := Tryz.underlying3
  have a3 := Tryz.isAgg3
  have z3 := Tryz.sizeOf3
  have u9 := Tryz.underlying9
  have a9 := Tryz.isAgg9
  have z9 := Tryz.sizeOf9
  have hS : Tryz.prog.underlying 90 = some (.struct (Tryz.prog.fieldsOf 90)) := by kernel_rfl
  have hb := bytes_beq x.nm y.nm
  have he : (Op.equalIn 10000 90 (.agg #[.string x.nm, .int .i64 x.kd]) (.agg #[.string y.nm, .int .i64 y.kd])).run Tryz.prog w = .ok (eqC x y) w := by
    rw [show (10000 : Nat) = 9999 + 1 from rfl, run_equalIn_agg w 9999 90 _ _ hS Tryz.stoodInHeld90]
    simp only [Program.fieldsOf, Tryz.underlying90]
    go_simp
    unfold eqC
    by_cases h1 : x.nm = y.nm <;> by_cases h2 : x.kd = y.kd <;> simp [h1, h2]
  show Sem.run Tryz.prog (binOp .neq 90 (.agg #[.string x.nm, .int .i64 x.kd]) (.agg #[.string y.nm, .int .i64 y.kd])) w = _
  generalize eqC x y = r at he ⊢
  have he' : Sem.run Tryz.prog (Op.equalIn Op.maxDepth 90 (.agg #[.string x.nm, .int .i64 x.kd]) (.agg #[.string y.nm, .int .i64 y.kd])) w = .ok r w := he
  simp [binOp, Op.equal, he']
theorem allEq_iff {α : Type} [Inhabited α] [DecidableEq α] {eq : α → α → Bool} (heq : ∀ x y, eq x y = true ↔ x = y) : ∀ (xs ys : List α), Lib.allEq eq xs ys = decide (xs = ys)
  | [], [] => by simp [Lib.allEq]
  | [], _ :: _ => by simp [Lib.allEq]
  | _ :: _, [] => by simp [Lib.allEq]
  | x :: xs, y :: ys => by
    have := allEq_iff heq xs ys
    by_cases h : eq x y = true
    · have hxy := (heq x y).1 h
      subst hxy
      simp [Lib.allEq, h, this]
    · have hxy : ¬ x = y := fun e => h ((heq x y).2 e)
      simp [Lib.allEq, h, hxy]
theorem rows_ne {rs qs : List Rw} {k : Nat} (h : ¬ rs[k]! = qs[k]!) : ¬ rs = qs := fun e => h (by rw [e])
theorem rows_eq {rs qs : List Rw} (h1 : rs.length = qs.length) (h : ∀ k, k < rs.length → rs[k]! = qs[k]!) : rs = qs := by
  apply List.ext_getElem h1
  intro i hi hi'
  have := h i hi
  rw [List.getElem!_eq_getElem?_getD, List.getElem!_eq_getElem?_getD, List.getElem?_eq_getElem hi, List.getElem?_eq_getElem hi'] at this
  exact this
end Go.Proofs.YtlbjbkhcnafhcaaGreat
namespace Go.Proofs.YtlbjbkhcnafhcaaGreat
open Go.RowKit
theorem toList_nil (s : ByteArray) : s.toList = [] ↔ s = noText := by
  constructor
  · intro h; exact bytes_toList_inj (by rw [h, ByteArray.toList_eq]; rfl)
  · intro h; subst h; rw [ByteArray.toList_eq]; rfl
theorem toList_isEmpty (s : ByteArray) : s.toList.isEmpty = decide (s = noText) := by
  rw [Bool.eq_iff_iff]; simp [toList_nil]
theorem size_iff (s : ByteArray) : (s.size : Int) ≤ 64 ↔ s.size ≤ 64 := by omega
set_option maxHeartbeats 400000 in
theorem rvalid_any {k n : Int} {s : ByteArray} {a0 a1 a2 a3 a4 a5 a6 a7 : Int} {w : World} :
    Calls Tryz.prog 67 #[V k n s a0 a1 a2 a3 a4 a5 a6 a7] w fun e w' => e = .returned (.bool (validB k n s a0 a1 a2 a3 a4 a5 a6 a7)) ∧ Below w.heap.size w w' := by
  have he := @eql22
  generalize hr : validB k n s a0 a1 a2 a3 a4 a5 a6 a7 = r
  have HR := hid (show validB k n s a0 a1 a2 a3 a4 a5 a6 a7 = r from hr)
  clear hr
  by_cases h1 : k = 1
  · subst h1
    go_enter Tryz.func67, Tryz.ntmps67
    go_wp2
    all_goals
      go_ret
      refine ⟨ret_bool ?_, (Below.refl _ _).alloc (Nat.le_refl _) _⟩
      go_light
      rw [← HR.out]
      have ht := toList_nil s
      have hz := size_iff s
      simp_all [validB, zeroH]
  · by_cases h2 : k = 2
    · subst h2
      go_enter Tryz.func67, Tryz.ntmps67
      go_wp2
      all_goals
        go_ret
        refine ⟨ret_bool ?_, (Below.refl _ _).alloc (Nat.le_refl _) _⟩
        go_light
        rw [← HR.out]
        have ht := toList_nil s
        have hz := size_iff s
        simp_all [validB, zeroH]
    · by_cases h3 : k = 3
      · subst h3
        go_enter Tryz.func67, Tryz.ntmps67
        go_wp2
        all_goals
          go_ret
          refine ⟨ret_bool ?_, (Below.refl _ _).alloc (Nat.le_refl _) _⟩
          go_light
          rw [← HR.out]
          have ht := toList_nil s
          have hz := size_iff s
          simp_all [validB, zeroH]
      · by_cases h4 : k = 4
        · subst h4
          go_enter Tryz.func67, Tryz.ntmps67
          go_wp2
          all_goals
            go_ret
            refine ⟨ret_bool ?_, (Below.refl _ _).alloc (Nat.le_refl _) _⟩
            go_light
            rw [← HR.out]
            have ht := toList_nil s
            have hz := size_iff s
            have hi := toList_isEmpty s
            simp_all [validB]
        · have g1 : (k == 1) = false := by simpa using h1
          have g2 : (k == 2) = false := by simpa using h2
          have g3 : (k == 3) = false := by simpa using h3
          have g4 : (k == 4) = false := by simpa using h4
          have HR2 := hid (show validB k n s a0 a1 a2 a3 a4 a5 a6 a7 = false by simp [validB, h1, h2, h3, h4])
          clear h1 h2 h3 h4
          go_enter Tryz.func67, Tryz.ntmps67
          go_wp2
          go_ret
          exact ⟨ret_bool (by rw [← HR.out, HR2.out]), (Below.refl _ _).alloc (Nat.le_refl _) _⟩
theorem alloc_block2 (w : World) (x y : Obj) : ((w.alloc x).alloc y).heap[w.heap.size + 1]? = some y := by
  have h := alloc_block (w.alloc x) y
  rwa [World.size_alloc] at h
theorem wrap64_u8 (c : UInt8) : wrap64 (c.toNat : Int) = (c.toNat : Int) := by
  have := c.toNat_lt
  go_arith
set_option maxHeartbeats 400000 in
theorem order_any {a b : Int} {w : World} :
    Calls Tryz.prog 87 #[.int .i64 a, .int .i64 b] w fun e w' => e = .returned (.int .i64 (cmpI a b)) ∧ w' = w := by
  go_enter Tryz.func87, Tryz.ntmps87
  go_wp2
  all_goals
    go_ret
    refine ⟨ret_int ?_, rfl⟩
    unfold cmpI
    split <;> (try split) <;> omega
theorem nth8_cell {W : World} {b : Nat} {k n : Int} {s : ByteArray} {a0 a1 a2 a3 a4 a5 a6 a7 : Int} (h : W.heap[b]? = some (.cells #[.int .i64 k, .int .i64 n, .string s, .int .i64 a0, .int .i64 a1, .int .i64 a2, .int .i64 a3, .int .i64 a4, .int .i64 a5, .int .i64 a6, .int .i64 a7] 40 (0, 0))) (i : Nat) (hi : i < 8) : W.cell? ⟨b, 3 + i, none⟩ = some (.int .i64 (nth8 a0 a1 a2 a3 a4 a5 a6 a7 i)) := by
  rw [block_cell h]
  rcases lt8 hi with rfl | rfl | rfl | rfl | rfl | rfl | rfl | rfl <;> rfl
theorem cmpB_drop_eq {x y : ByteArray} {i : Nat} (hx : i < x.size) (hy : i < y.size) (h : x[i] = y[i]) : cmpB (x.data.toList.drop i) (y.data.toList.drop i) = cmpB (x.data.toList.drop (i + 1)) (y.data.toList.drop (i + 1)) := by
  rw [List.drop_eq_getElem_cons (i := i) (by simpa using hx), List.drop_eq_getElem_cons (i := i) (l := y.data.toList) (by simpa using hy)]
  have h' : x.data.toList[i]'(by simpa using hx) = y.data.toList[i]'(by simpa using hy) := h
  simp [cmpB, h']
theorem cmpB_drop_ne {x y : ByteArray} {i : Nat} (hx : i < x.size) (hy : i < y.size) (h : ¬ x[i] = y[i]) : cmpB (x.data.toList.drop i) (y.data.toList.drop i) = cmpI (x[i].toNat : Int) (y[i].toNat : Int) := by
  rw [List.drop_eq_getElem_cons (i := i) (by simpa using hx), List.drop_eq_getElem_cons (i := i) (l := y.data.toList) (by simpa using hy)]
  have e1 : x.data.toList[i]'(by simpa using hx) = x[i] := rfl
  have e2 : y.data.toList[i]'(by simpa using hy) = y[i] := rfl
  rw [e1, e2]
  generalize x[i] = a at *
  generalize y[i] = b at *
  simp only [cmpB, cmpI, UInt8.lt_iff_toNat_lt]
  have hne : a.toNat ≠ b.toNat := fun e => h (UInt8.toNat_inj.1 e)
  repeat' split
  all_goals omega
theorem cmpB_end {x y : ByteArray} {i : Nat} (h1 : i ≤ x.size) (h2 : i ≤ y.size) (h : ¬ (i < x.size ∧ i < y.size)) : cmpB (x.data.toList.drop i) (y.data.toList.drop i) = cmpI (x.size : Int) (y.size : Int) := by
  have lx : x.data.toList.length = x.size := Array.length_toList
  have ly : y.data.toList.length = y.size := Array.length_toList
  have dx : (x.data.toList.drop i).length = x.size - i := by rw [List.length_drop, lx]
  have dy : (y.data.toList.drop i).length = y.size - i := by rw [List.length_drop, ly]
  generalize x.data.toList.drop i = p at *
  generalize y.data.toList.drop i = q at *
  unfold cmpI
  cases p with
  | nil =>
    cases q with
    | nil => simp at dx dy; rw [if_neg (by omega), if_neg (by omega)]; rfl
    | cons b q => simp at dx dy; rw [if_pos (by omega)]; rfl
  | cons a p =>
    cases q with
    | nil => simp at dx dy; rw [if_neg (by omega), if_pos (by omega)]; rfl
    | cons b q => simp at dx dy; omega
set_option maxHeartbeats 1000000 in
theorem rcompare_any {k n : Int} {s : ByteArray} {a0 a1 a2 a3 a4 a5 a6 a7 : Int} {k' n' : Int} {s' : ByteArray} {b0 b1 b2 b3 b4 b5 b6 b7 : Int} {w : World} (hs : s.size ≤ maxLen) (hs' : s'.size ≤ maxLen) :
    Calls Tryz.prog 59 #[V k n s a0 a1 a2 a3 a4 a5 a6 a7, V k' n' s' b0 b1 b2 b3 b4 b5 b6 b7] w fun e w' => e = .returned (.int .i64 (cmpV k n s a0 a1 a2 a3 a4 a5 a6 a7 k' n' s' b0 b1 b2 b3 b4 b5 b6 b7)) ∧ Below w.heap.size w w' := by
  unfold maxLen at hs hs'
  generalize hr : cmpV k n s a0 a1 a2 a3 a4 a5 a6 a7 k' n' s' b0 b1 b2 b3 b4 b5 b6 b7 = r
  unfold cmpV at hr
  by_cases h1 : k = k'
  · subst h1
    rw [thn_zero (by simp [cmpI_self])] at hr
    by_cases h2 : n = n'
    · subst h2
      rw [thn_zero (by simp [cmpI_self])] at hr
      have HR := hid hr
      clear hr
      go_enter Tryz.func59, Tryz.ntmps59
      go_wp2
      go_loopw [5] (fun i wr => ∃ j : Nat, j ≤ s.size ∧ j ≤ s'.size ∧ i = .int .i64 j ∧ Hid (cmpB (s.data.toList.drop j) (s'.data.toList.drop j) = cmpS s s') ∧ Hid (wr.heap[w.heap.size]? = some (.cells #[.int .i64 k, .int .i64 n, .string s, .int .i64 a0, .int .i64 a1, .int .i64 a2, .int .i64 a3, .int .i64 a4, .int .i64 a5, .int .i64 a6, .int .i64 a7] 40 (0, 0))) ∧ Hid (wr.heap[w.heap.size + 1]? = some (.cells #[.int .i64 k, .int .i64 n, .string s', .int .i64 b0, .int .i64 b1, .int .i64 b2, .int .i64 b3, .int .i64 b4, .int .i64 b5, .int .i64 b6, .int .i64 b7] 40 (0, 0))) ∧ Hid (Below w.heap.size w wr)) (fun i _ => s.size - (intOf i).toNat)
      case atStart =>
        refine ⟨0, by omega, by omega, rfl, ?_, ?_, ?_, ?_⟩
        · show cmpB _ _ = cmpB _ _
          rw [ByteArray.toList_eq, ByteArray.toList_eq]; rfl
        · exact block_on (alloc_block w _) ((Below.refl _ _).alloc (Nat.le_refl _) _)
        · exact hid (alloc_block2 _ _ _)
        · show Below _ _ _
          go_grown
      case round =>
        obtain ⟨j, hj1, hj2, rfl, HC, HA, HB, HBel⟩ := hrel
        have c0 := fun o => block_cell HA.out o
        have c1 := fun o => block_cell HB.out o
        by_cases hlt : j < s.size ∧ j < s'.size
        · obtain ⟨l1, l2⟩ := hlt
          by_cases he : s[j] = s'[j]
          · have hne : ((s[j].toNat : Int) != (s'[j].toNat : Int)) = false := by rw [he]; simp
            have HE := hid he
            clear he
            go_wp2_with fail
            go_quiet (fail)
            go_wp2
            go_roundw
            case rel => exact ⟨j + 1, by omega, by omega, by go_num, (cmpB_drop_eq l1 l2 HE.out).symm.trans HC.out, HA.out, HB.out, below_drewN HBel.out _⟩
            case measure => simp [intOf]; omega
          · have hne : ((s[j].toNat : Int) != (s'[j].toNat : Int)) = true := by
              simp only [bne_iff_ne, ne_eq]; intro e; apply he; apply UInt8.toNat_inj.1; omega
            have HE := hid he
            clear he
            go_wp2_with fail
            go_quiet (fail)
            have HA2 := hid (show (wr.drewN nq).heap[w.heap.size]? = _ from HA.out)
            have HB2 := hid (show (wr.drewN nq).heap[w.heap.size + 1]? = _ from HB.out)
            have HBel2 := hid (below_drewN HBel.out nq)
            clear c0 c1 HA HB HBel
            generalize wr.drewN nq = wr2 at *
            have c0 := fun o => block_cell HA2.out o
            have c1 := fun o => block_cell HB2.out o
            go_wp2_with fail
            go_quiet ((go_at_call 87; exact Calls.quiet_of_same order_any))
            go_wp2
            go_ret
            refine ⟨ret_int ?_, below_drewN HBel2.out _⟩
            have hfin : cmpI (s[j].toNat : Int) (s'[j].toNat : Int) = r := by
              rw [← HR.out, ← HC.out, cmpB_drop_ne l1 l2 HE.out]
              exact (thn_ne (cmpI_ne (fun e => HE.out (UInt8.toNat_inj.1 (by omega))))).symm
            rw [wrap64_u8, wrap64_u8]
            exact hfin
        · have HE := hid (cmpB_end hj1 hj2 hlt)
          by_cases hs2 : s.size = s'.size
          · have hz : ((s.size : Int) != (s'.size : Int)) = false := by rw [hs2]; simp
            have hj3 : ¬ j < s.size := by omega
            have HR2 := hid (show cmpFrom (nth8 a0 a1 a2 a3 a4 a5 a6 a7) (nth8 b0 b1 b2 b3 b4 b5 b6 b7) 8 0 = r by
              rw [← HR.out, ← HC.out, HE.out, hs2, cmpI_self]; exact (thn_zero (by simp)).symm)
            clear hlt HE HC HR hs2
            go_wp2
            go_loopw [6] (fun i wr => ∃ j : Nat, j ≤ 8 ∧ i = .int .i64 j ∧ Hid (cmpFrom (nth8 a0 a1 a2 a3 a4 a5 a6 a7) (nth8 b0 b1 b2 b3 b4 b5 b6 b7) (8 - j) j = r) ∧ Hid (wr.heap[w.heap.size]? = some (.cells #[.int .i64 k, .int .i64 n, .string s, .int .i64 a0, .int .i64 a1, .int .i64 a2, .int .i64 a3, .int .i64 a4, .int .i64 a5, .int .i64 a6, .int .i64 a7] 40 (0, 0))) ∧ Hid (wr.heap[w.heap.size + 1]? = some (.cells #[.int .i64 k, .int .i64 n, .string s', .int .i64 b0, .int .i64 b1, .int .i64 b2, .int .i64 b3, .int .i64 b4, .int .i64 b5, .int .i64 b6, .int .i64 b7] 40 (0, 0))) ∧ Hid (Below w.heap.size w wr)) (fun i _ => 8 - (intOf i).toNat)
            case atStart => exact ⟨0, by omega, rfl, HR2.out, HA.out, HB.out, HBel.out⟩
            case round =>
              obtain ⟨i, hi, rfl, HC, HA, HB, HBel⟩ := hrel
              by_cases hlt : i < 8
              · have c0 := nth8_cell HA.out i hlt
                have c1 := nth8_cell HB.out i hlt
                by_cases he : nth8 a0 a1 a2 a3 a4 a5 a6 a7 i = nth8 b0 b1 b2 b3 b4 b5 b6 b7 i
                · have H0 := hid he
                  rw [← he] at c1
                  generalize nth8 a0 a1 a2 a3 a4 a5 a6 a7 i = xi at c0 c1
                  clear he
                  go_wp2_with fail
                  go_quiet (fail)
                  go_wp2
                  go_roundw
                  case rel => exact ⟨i + 1, by omega, by go_num, (cmpFrom_eq hlt H0.out).symm.trans HC.out, HA.out, HB.out, below_drewN HBel.out _⟩
                  case measure => simp [intOf]; omega
                · have H0 := hid he
                  have H1 := hid (cmpFrom_ne hlt he)
                  have hne : (nth8 a0 a1 a2 a3 a4 a5 a6 a7 i != nth8 b0 b1 b2 b3 b4 b5 b6 b7 i) = true := by simpa using he
                  clear he
                  go_wp2_with fail
                  go_quiet (fail)
                  have HA2 := hid (show (wr.drewN nq).heap[w.heap.size]? = _ from HA.out)
                  have HB2 := hid (show (wr.drewN nq).heap[w.heap.size + 1]? = _ from HB.out)
                  have HBel2 := hid (below_drewN HBel.out nq)
                  clear c0 c1 HA HB HBel
                  generalize wr.drewN nq = wr2 at *
                  have c0 := nth8_cell HA2.out i hlt
                  have c1 := nth8_cell HB2.out i hlt
                  go_wp2_with fail
                  go_quiet ((go_at_call 87; exact Calls.quiet_of_same order_any))
                  go_wp2
                  go_ret
                  exact ⟨ret_int (H1.out.symm.trans HC.out), below_drewN HBel2.out _⟩
              · have h8 : i = 8 := by omega
                subst h8
                go_wp2
                go_ret
                exact ⟨ret_int (by have := HC.out; simpa [cmpFrom] using this), HBel.out⟩
          · have hz : ((s.size : Int) != (s'.size : Int)) = true := by simp only [bne_iff_ne, ne_eq]; omega
            have HR2 := hid (show cmpI (s.size : Int) (s'.size : Int) = r by
              rw [← HR.out, ← HC.out, HE.out]; exact (thn_ne (cmpI_ne (by omega))).symm)
            clear HE HC HR hs2
            by_cases hj3 : j < s.size
            · have hj4 : ¬ j < s'.size := by omega
              clear hlt
              go_wp2_with (first | (go_at_call 87; refine order_any.mono ?_; rintro e w' ⟨rfl, rfl⟩))
              go_ret
              exact ⟨ret_int HR2.out, HBel.out⟩
            · clear hlt
              go_wp2_with (first | (go_at_call 87; refine order_any.mono ?_; rintro e w' ⟨rfl, rfl⟩))
              go_ret
              exact ⟨ret_int HR2.out, HBel.out⟩
    · have hz : (n != n') = true := by simpa using h2
      rw [thn_ne (cmpI_ne h2)] at hr
      have HR := hid hr
      clear hr h2
      go_enter Tryz.func59, Tryz.ntmps59
      go_wp2_with (first | (go_at_call 87; refine order_any.mono ?_; rintro e w' ⟨rfl, rfl⟩))
      go_ret
      exact ⟨ret_int HR.out, ((Below.refl _ _).alloc (Nat.le_refl _) _).alloc (by simp) _⟩
  · have hz : (k != k') = true := by simpa using h1
    rw [thn_ne (cmpI_ne h1)] at hr
    have HR := hid hr
    clear hr h1
    go_enter Tryz.func59, Tryz.ntmps59
    go_wp2_with (first | (go_at_call 87; refine order_any.mono ?_; rintro e w' ⟨rfl, rfl⟩))
    go_ret
    exact ⟨ret_int HR.out, ((Below.refl _ _).alloc (Nat.le_refl _) _).alloc (by simp) _⟩
end Go.Proofs.YtlbjbkhcnafhcaaGreat
namespace Go.Proofs.YtlbjbkhcnafhcaaGreat
open Go.RowKit Go.Sort Go.Shelf

theorem regrown_cell {w : World} {a : Addr} {v : Value} (h : w.cell? a = some v) (d : Nat) (os : Array Obj) : (grow (redrawn w d) os).cell? a = some v :=
  ((below_regrown w d os).cell (block_lt_of_cell h)).trans h
theorem rcompare_is {x y : Vl} {c : Int} {w : World} (h : cmpL x y = c) : Calls Tryz.prog 59 #[x.val, y.val] w fun e w' => e = .returned (.int .i64 c) ∧ Below w.heap.size w w' := by rw [← h]; exact rcompare_any x.small y.small
set_option maxHeartbeats 1000000 in
theorem rrow_any {u v : Value} {r q : Rw} {w : World} (hu : RowAt w u r) (hv : RowAt w v q) :
    Calls Tryz.prog 32 #[u, v] w fun e w' => e = .returned (.int .i64 (cmpR r q)) ∧ Below w.heap.size w w' := by
  obtain ⟨p, cap, rfl, hcap, hmax, hx⟩ := hu
  obtain ⟨p', cap', rfl, hcap', hmax', hx'⟩ := hv
  unfold maxLen at hmax hmax'
  generalize hr : cmpR r q = res
  have HR := hid hr
  have HX := hid hx
  have HX' := hid hx'
  clear hr hx hx'
  generalize hn : r.length = n at *
  generalize hn' : q.length = m at *
  have HN := hid hn
  have HN' := hid hn'
  clear hn hn'
  go_enter Tryz.func32, Tryz.ntmps32
  go_wp2
  go_loopw [5] (fun i wr => ∃ k : Nat, k ≤ n ∧ k ≤ m ∧ i = .int .i64 k ∧ Hid (Below w.heap.size w wr) ∧ Hid (cmpR (r.drop k) (q.drop k) = res)) (fun i _ => n - (intOf i).toNat)
  case atStart => exact ⟨0, by omega, by omega, rfl, Below.refl _ _, HR.out⟩
  case round =>
    obtain ⟨k, hk, hk', rfl, HG, HD⟩ := hrel
    by_cases hlt : k < n
    · have hkr : k < r.length := by rw [HN.out]; exact hlt
      by_cases hlt' : k < m
      · have hkq : k < q.length := by rw [HN'.out]; exact hlt'
        obtain ⟨b, o, rfl, -, hj⟩ := HX.out (by intro e; subst e; simp at hkr)
        obtain ⟨b', o', rfl, -, hj'⟩ := HX'.out (by intro e; subst e; simp at hkq)
        obtain ⟨c0, c1, c2, c3, c4, c5, c6, c7, c8, c9, c10⟩ := val_cells ((hj k _ (get!_some hkr)).on HG.out)
        obtain ⟨d0, d1, d2, d3, d4, d5, d6, d7, d8, d9, d10⟩ := val_cells ((hj' k _ (get!_some hkq)).on HG.out)
        have HS := hid (cmpR_step hkr hkq)
        generalize r[k]! = x at c0 c1 c2 c3 c4 c5 c6 c7 c8 c9 c10 HS
        generalize q[k]! = y at d0 d1 d2 d3 d4 d5 d6 d7 d8 d9 d10 HS
        clear hj hj'
        replace c0 := regrown_cell c0
        replace c1 := regrown_cell c1
        replace c2 := regrown_cell c2
        replace c3 := regrown_cell c3
        replace c4 := regrown_cell c4
        replace c5 := regrown_cell c5
        replace c6 := regrown_cell c6
        replace c7 := regrown_cell c7
        replace c8 := regrown_cell c8
        replace c9 := regrown_cell c9
        replace c10 := regrown_cell c10
        replace d0 := regrown_cell d0
        replace d1 := regrown_cell d1
        replace d2 := regrown_cell d2
        replace d3 := regrown_cell d3
        replace d4 := regrown_cell d4
        replace d5 := regrown_cell d5
        replace d6 := regrown_cell d6
        replace d7 := regrown_cell d7
        replace d8 := regrown_cell d8
        replace d9 := regrown_cell d9
        replace d10 := regrown_cell d10
        by_cases hz : cmpL x y = 0
        · have HZ := hid hz
          clear hz
          go_wp2_with fail
          refine wp_region_quiet_below (by kernel_rfl) (by kernel_rfl) ?_
          repeat (go_big_quiet_step (first | (go_at_call 59; exact Calls.regrown_of (rcompare_is HZ.out))))
          refine wpQuiet_nil ?_
          intro _ hw'
          obtain ⟨⟨dq, osq⟩, hw''⟩ := hw'
          subst hw''
          go_wp2
          go_roundw
          case rel =>
            refine ⟨k + 1, by omega, by omega, by go_num, below_on HG.out (below_regrown wr dq osq), ?_⟩
            have := HS.out
            rw [HD.out, thn_zero (by simp [HZ.out])] at this
            exact this.symm
          case measure => simp [intOf]; omega
        · generalize hcv : cmpL x y = cv at *
          have hcz : (cv != 0) = true := by simpa using hz
          have HZ := hid hz
          have HCV := hid hcv
          clear hz hcv
          go_wp2_with fail
          refine wp_region_quiet_below (by kernel_rfl) (by kernel_rfl) ?_
          repeat (go_big_quiet_step (first | (go_at_call 59; exact Calls.regrown_of (rcompare_is HCV.out))))
          refine wpQuiet_nil ?_
          intro _ hw'
          obtain ⟨⟨dq, osq⟩, hw''⟩ := hw'
          subst hw''
          go_wp2
          go_ret
          refine ⟨ret_int ?_, below_on HG.out (below_regrown wr dq osq)⟩
          have := HS.out
          rw [HD.out, thn_ne hcz] at this
          exact this.symm
      · have hnl : decide ((k : Int) < (m : Int)) = false := by simp; omega
        have hkm : k = m := by omega
        subst hkm
        have hnm : ¬ (n : Int) < (k : Int) := by omega
        go_wp2
        go_ret
        exact ⟨ret_int ((cmpR_longer hkr (by rw [HN'.out]; omega)).symm.trans HD.out), HG.out⟩
    · have hks : k = n := by omega
      subst hks
      by_cases hlt' : k < m
      · go_wp2
        go_ret
        exact ⟨ret_int ((cmpR_shorter (by rw [HN.out]; omega) (by rw [HN'.out]; omega)).symm.trans HD.out), HG.out⟩
      · have hkm : k = m := by omega
        subst hkm
        go_wp2
        go_ret
        exact ⟨ret_int ((cmpR_ends (by rw [HN.out]; omega) (by rw [HN'.out]; omega)).symm.trans HD.out), HG.out⟩
theorem cols_ne {cs ds : List Cl} {k : Nat} (h : ¬ cs[k]! = ds[k]!) : ¬ cs = ds := fun e => h (by rw [e])
theorem cols_eq {cs ds : List Cl} (h1 : cs.length = ds.length) (h : ∀ k, k < cs.length → cs[k]! = ds[k]!) : cs = ds := by
  apply List.ext_getElem h1
  intro i hi hi'
  have := h i hi
  rw [List.getElem!_eq_getElem?_getD, List.getElem!_eq_getElem?_getD, List.getElem?_eq_getElem hi, List.getElem?_eq_getElem hi'] at this
  exact this
set_option maxHeartbeats 1000000 in
theorem samecols_any {u v : Value} {cs ds : List Cl} {w : World} (hu : ColsAt w u cs) (hv : ColsAt w v ds) :
    Calls Tryz.prog 41 #[u, v] w fun e w' => e = .returned (.bool (decide (cs = ds))) ∧ Below w.heap.size w w' := by
  obtain ⟨p, cap, rfl, hcap, hmax, hx⟩ := hu
  obtain ⟨p', cap', rfl, hcap', hmax', hx'⟩ := hv
  unfold maxLen at hmax hmax'
  generalize hr : decide (cs = ds) = res
  have HR := hid hr
  have HX := hid hx
  have HX' := hid hx'
  clear hr hx hx'
  generalize hn : cs.length = n at *
  generalize hn' : ds.length = m at *
  have HN := hid hn
  have HN' := hid hn'
  clear hn hn'
  by_cases hl : n = m
  · subst hl
    go_enter Tryz.func41, Tryz.ntmps41
    go_wp2
    go_loopw [5] (fun i wr => ∃ k : Nat, k ≤ n ∧ i = .int .i64 k ∧ Hid (Below w.heap.size w wr) ∧ Hid (∀ j, j < k → cs[j]! = ds[j]!)) (fun i _ => n - (intOf i).toNat)
    case atStart => exact ⟨0, by omega, rfl, Below.refl _ _, fun j h => absurd h (Nat.not_lt_zero _)⟩
    case round =>
      obtain ⟨k, hk, rfl, HB, HA⟩ := hrel
      by_cases hlt : k < n
      · have hkc : k < cs.length := by rw [HN.out]; exact hlt
        have hkd : k < ds.length := by rw [HN'.out]; exact hlt
        obtain ⟨b, o, rfl, -, hj⟩ := HX.out (by intro e; subst e; simp at hkc)
        obtain ⟨b', o', rfl, -, hj'⟩ := HX'.out (by intro e; subst e; simp at hkd)
        obtain ⟨c0, c1⟩ := col_cells ((hj k _ (get!_some hkc)).on HB.out)
        obtain ⟨d0, d1⟩ := col_cells ((hj' k _ (get!_some hkd)).on HB.out)
        have HNE := hid (cols_ne (cs := cs) (ds := ds) (k := k))
        have HSTEP : Hid (cs[k]! = ds[k]! → ∀ j, j < k + 1 → cs[j]! = ds[j]!) := fun e j hj => by
          by_cases h : j = k
          · subst h; exact e
          · exact HA.out j (by omega)
        generalize cs[k]! = x at c0 c1 HNE HSTEP
        generalize ds[k]! = y at d0 d1 HNE HSTEP
        clear hj hj'
        have hq : ∀ w : World, Sem.run Tryz.prog (binOp .neq 90 (.agg #[.string x.nm, .int .i64 x.kd]) (.agg #[.string y.nm, .int .i64 y.kd])) w = .ok (.bool (!eqC x y)) w := fun w => neqC.1 x y w
        cases hb : eqC x y with
        | true =>
          have HE := hid ((eqC_iff x y).1 hb)
          simp only [hb] at hq
          clear hb
          go_wp2_with fail
          go_quiet (fail)
          go_wp2
          go_roundw
          case rel => exact ⟨k + 1, by omega, by go_num, below_drewN HB.out _, HSTEP.out HE.out⟩
          case measure => simp [intOf]; omega
        | false =>
          have HE := hid (show ¬ x = y from fun e => by rw [(eqC_iff x y).2 e] at hb; cases hb)
          simp only [hb] at hq
          clear hb
          go_wp2_with fail
          go_quiet (fail)
          go_wp2
          go_ret
          exact ⟨ret_bool ((decide_eq_false (HNE.out HE.out)).symm.trans HR.out), below_drewN HB.out _⟩
      · have hks : k = n := by omega
        subst hks
        go_wp2
        go_ret
        exact ⟨ret_bool ((decide_eq_true (cols_eq (by rw [HN.out, HN'.out]) (by rw [HN.out]; exact HA.out))).symm.trans HR.out), HB.out⟩
  · have hne : ((n : Int) != (m : Int)) = true := by simp; omega
    go_enter Tryz.func41, Tryz.ntmps41
    go_wp2
    go_ret
    refine ⟨ret_bool ((decide_eq_false ?_).symm.trans HR.out), Below.refl _ _⟩
    intro e
    subst e
    exact hl (HN.out.symm.trans HN'.out)
end Go.Proofs.YtlbjbkhcnafhcaaGreat
namespace Go.Proofs.YtlbjbkhcnafhcaaGreat
open Go.RowKit Go.Sort Go.Shelf

theorem samecols_is {u v : Value} {r q : List Cl} {w : World} {c : Bool} (hu : ColsAt w u r) (hv : ColsAt w v q) (h : decide (r = q) = c) :
    Calls Tryz.prog 41 #[u, v] w fun e w' => e = .returned (.bool c) ∧ Below w.heap.size w w' := by rw [← h]; exact samecols_any hu hv
theorem rrow_is {u v : Value} {r q : Rw} {w : World} {c : Int} (hu : RowAt w u r) (hv : RowAt w v q) (h : cmpR r q = c) :
    Calls Tryz.prog 32 #[u, v] w fun e w' => e = .returned (.int .i64 c) ∧ Below w.heap.size w w' := by rw [← h]; exact rrow_any hu hv
set_option maxHeartbeats 1000000 in
theorem rsame_any {u v : Value} {cs ds : List Cl} {rs qs : List Rw} {w : World} (hu : TabAt w u cs rs) (hv : TabAt w v ds qs) :
    Calls Tryz.prog 15 #[u, v] w fun e w' => e = .returned (.bool (decide (cs = ds ∧ rs = qs))) ∧ Below w.heap.size w w' := by
  obtain ⟨c, r, rfl, hc, hs, ⟨p, cap, rfl, hcap, hmax, hx⟩, hh⟩ := hu
  obtain ⟨c', r', rfl, hc', hs', ⟨p', cap', rfl, hcap', hmax', hx'⟩, hh'⟩ := hv
  unfold maxLen at hmax hmax'
  generalize hn : hs.length = n at *
  generalize hn' : hs'.length = m at *
  have HN := hid hn
  have HN' := hid hn'
  clear hn hn'
  have HC := hid hc
  have HC' := hid hc'
  have HX := hid hx
  have HX' := hid hx'
  have HH := hid hh
  have HH' := hid hh'
  clear hc hc' hx hx' hh hh'
  have HB : Hid (Below w.heap.size w ((w.alloc (.cells #[c, .slice p n cap] 44)).alloc (.cells #[c', .slice p' m cap'] 44))) := ((Below.refl w.heap.size w).alloc (Nat.le_refl _) _).alloc (by simp) _
  have K0 := hid (block_on (alloc_block w (.cells #[c, .slice p n cap] 44)) ((Below.refl _ _).alloc (Nat.le_refl _) (.cells #[c', .slice p' m cap'] 44)))
  have K1 : Hid (((w.alloc (.cells #[c, .slice p n cap] 44)).alloc (.cells #[c', .slice p' m cap'] 44)).heap[w.heap.size + 1]? = some (.cells #[c', .slice p' m cap'] 44 (0, 0))) := by
    have h := alloc_block (w.alloc (.cells #[c, .slice p n cap] 44)) (.cells #[c', .slice p' m cap'] 44)
    rw [World.size_alloc] at h
    exact h
  cases hcd : decide (cs = ds) with
  | false =>
    have he : decide (cs = ds ∧ rs = qs) = false := decide_eq_false fun h => of_decide_eq_false hcd h.1
    rw [he]
    go_enter Tryz.func15, Tryz.ntmps15
    go_wp2_with (first | (go_at_call 41; refine (samecols_is (HC.out.on HB.out) (HC'.out.on HB.out) hcd).mono ?_; rintro e w1 ⟨rfl, hb1⟩))
    go_ret
    exact ⟨rfl, below_on HB.out hb1⟩
  | true =>
    have he : decide (cs = ds ∧ rs = qs) = decide (rs = qs) := by
      have := of_decide_eq_true hcd
      by_cases h : rs = qs <;> simp [this, h]
    rw [he]
    clear he
    generalize hr : decide (rs = qs) = res
    have HR := hid hr
    clear hr
    by_cases hl : n = m
    · subst hl
      go_enter Tryz.func15, Tryz.ntmps15
      go_wp2_with (first | (go_at_call 41; refine (samecols_is (HC.out.on HB.out) (HC'.out.on HB.out) hcd).mono ?_; rintro e w1 ⟨rfl, hb1⟩; have HB1 := hid (below_on HB.out hb1); have HK0 := hid (block_on K0.out hb1); have HK1 := hid (block_on K1.out hb1); have k0 := block_cell HK0.out; have k1 := block_cell HK1.out; clear hb1))
      go_loopw [5] (fun i wr => ∃ k : Nat, k ≤ n ∧ i = .int .i64 k ∧ Hid (Below w.heap.size w wr) ∧ Hid (wr.heap[w.heap.size]? = some (.cells #[c, .slice p n cap] 44 (0, 0))) ∧ Hid (wr.heap[w.heap.size + 1]? = some (.cells #[c', .slice p' n cap'] 44 (0, 0))) ∧ Hid (∀ j, j < k → rs[j]! = qs[j]!)) (fun i _ => n - (intOf i).toNat)
      case atStart => exact ⟨0, by omega, rfl, HB1.out, HK0.out, HK1.out, fun j h => absurd h (Nat.not_lt_zero _)⟩
      case round =>
        clear k0 k1 HK0 HK1
        obtain ⟨k, hk, rfl, HB2, HK0, HK1, HA⟩ := hrel
        by_cases hlt : k < n
        · have hkh : k < hs.length := by rw [HN.out]; exact hlt
          have hkr : k < rs.length := by rw [← HH.out.1]; exact hkh
          have hkh' : k < hs'.length := by rw [HN'.out]; exact hlt
          have hkr' : k < qs.length := by rw [← HH'.out.1]; exact hkh'
          obtain ⟨b, o, rfl, -, hj⟩ := HX.out (by intro e; subst e; simp at hkh)
          obtain ⟨b', o', rfl, -, hj'⟩ := HX'.out (by intro e; subst e; simp at hkh')
          have hd := head_cell (fun j x hjx => (hj j x hjx).on HB2.out) (get!_some hkh)
          have hd' := head_cell (fun j x hjx => (hj' j x hjx).on HB2.out) (get!_some hkh')
          have HRow := hid ((HH.out.2 k _ _ (get!_some hkh) (get!_some hkr)).on HB2.out)
          have HRow' := hid ((HH'.out.2 k _ _ (get!_some hkh') (get!_some hkr')).on HB2.out)
          generalize hs[k]! = hd0 at hd HRow
          generalize hs'[k]! = hd0' at hd' HRow'
          clear hj hj'
          have HNE := hid (rows_ne (rs := rs) (qs := qs) (k := k))
          have HSTEP : Hid (rs[k]! = qs[k]! → ∀ j, j < k + 1 → rs[j]! = qs[j]!) := fun e j hj => by
            by_cases h : j = k
            · subst h; exact e
            · exact HA.out j (by omega)
          generalize rs[k]! = r0 at HRow HNE HSTEP
          generalize qs[k]! = q0 at HRow' HNE HSTEP
          have k0 := block_cell HK0.out
          have k1 := block_cell HK1.out
          have kk0 : ∀ d os j, (grow (redrawn wr d) os).cell? ⟨w.heap.size, j, none⟩ = (#[c, .slice (some ⟨b, o, none⟩) n cap] : Array Value)[j]? := fun d os j => block_cell (block_on HK0.out (below_regrown wr d os)) j
          have kk1 : ∀ d os j, (grow (redrawn wr d) os).cell? ⟨w.heap.size + 1, j, none⟩ = (#[c', .slice (some ⟨b', o', none⟩) n cap'] : Array Value)[j]? := fun d os j => block_cell (block_on HK1.out (below_regrown wr d os)) j
          have hd2 := regrown_cell hd
          have hd2' := regrown_cell hd'
          have HRw : ∀ d os, Hid (RowAt (grow (redrawn wr d) os) hd0 r0) := fun d os => HRow.out.on (below_regrown wr d os)
          have HRw' : ∀ d os, Hid (RowAt (grow (redrawn wr d) os) hd0' q0) := fun d os => HRow'.out.on (below_regrown wr d os)
          clear hd hd'
          by_cases hz : cmpR r0 q0 = 0
          · have HZ := hid hz
            clear hz
            go_wp2_with fail
            refine wp_region_quiet_below (by kernel_rfl) (by kernel_rfl) ?_
            repeat (go_big_quiet_step (first | (go_at_call 32; exact Calls.regrown_of (rrow_is (HRw _ _).out (HRw' _ _).out HZ.out))))
            refine wpQuiet_nil ?_
            intro _ hw'
            obtain ⟨⟨dq, osq⟩, hw''⟩ := hw'
            subst hw''
            go_wp2
            go_roundw
            case rel => exact ⟨k + 1, by omega, by go_num, below_on HB2.out (below_regrown wr dq osq), block_on HK0.out (below_regrown wr dq osq), block_on HK1.out (below_regrown wr dq osq), HSTEP.out ((cmpR_zero _ _).1 HZ.out)⟩
            case measure => simp [intOf]; omega
          · generalize hcv : cmpR r0 q0 = cv at *
            have hcz : (cv != 0) = true := by simpa using hz
            have HZ := hid (show ¬ r0 = q0 from fun e => hz (hcv.symm.trans ((cmpR_zero _ _).2 e)))
            have HCV := hid hcv
            clear hz hcv
            go_wp2_with fail
            refine wp_region_quiet_below (by kernel_rfl) (by kernel_rfl) ?_
            repeat (go_big_quiet_step (first | (go_at_call 32; exact Calls.regrown_of (rrow_is (HRw _ _).out (HRw' _ _).out HCV.out))))
            refine wpQuiet_nil ?_
            intro _ hw'
            obtain ⟨⟨dq, osq⟩, hw''⟩ := hw'
            subst hw''
            go_wp2
            go_ret
            exact ⟨ret_bool ((decide_eq_false (HNE.out HZ.out)).symm.trans HR.out), below_on HB2.out (below_regrown wr dq osq)⟩
        · have hks : k = n := by omega
          subst hks
          have k0 := block_cell HK0.out
          go_wp2
          go_ret
          exact ⟨ret_bool ((decide_eq_true (rows_eq (by rw [← HH.out.1, ← HH'.out.1, HN.out, HN'.out]) (by rw [← HH.out.1, HN.out]; exact HA.out))).symm.trans HR.out), HB2.out⟩
    · have hne : ((n : Int) != (m : Int)) = true := by simp; omega
      go_enter Tryz.func15, Tryz.ntmps15
      go_wp2_with (first | (go_at_call 41; refine (samecols_is (HC.out.on HB.out) (HC'.out.on HB.out) hcd).mono ?_; rintro e w1 ⟨rfl, hb1⟩; have HB1 := hid (below_on HB.out hb1); have HK0 := hid (block_on K0.out hb1); have HK1 := hid (block_on K1.out hb1); have k0 := block_cell HK0.out; have k1 := block_cell HK1.out; clear hb1))
      go_ret
      refine ⟨ret_bool ((decide_eq_false ?_).symm.trans HR.out), HB1.out⟩
      intro e
      subst e
      apply hl
      rw [← HN.out, ← HN'.out, HH.out.1, HH'.out.1]
end Go.Proofs.YtlbjbkhcnafhcaaGreat
