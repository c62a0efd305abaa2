/-
  What the reference's Find, fits and Fits return, for all schemas and every point.
  What the reference's Fits, One and Check return, for all schemas and every point.
  append and a call, each as one step of a region that draws its order; columns put behind columns.
  What schema.Cols and schema.Find return, for every schema.
-/
import Derived.Test.YtlbjbkhcnafhcaaGreatP25RCheck
import Derived.Test.YtlbjbkhcnafhcaaGreatP11Txt
import Derived.Deep.RegionHeldLaw
import Derived.Deep.RegionHeld3
import Derived.Deep.RegionLaw
namespace Go.Proofs.YtlbjbkhcnafhcaaGreat
open Go.RowKit Go.Sort Go.Shelf

def zSc : Value := .agg #[.string ⟨#[]⟩, .slice none 0 0, .slice none 0 0]
theorem findS_hit {l : List Sc} {nm : ByteArray} {k : Nat} (hk : k < l.length) (h : l[k]!.nm = nm) (hne : ∀ j, j < k → ¬ l[j]!.nm = nm) : atS l nm = (k : Int) := by
  unfold atS
  have key : ∀ (ns : List ByteArray) (i k : Nat) (hk : k < ns.length), ns[k] = nm → (∀ j (hj : j < ns.length), j < k → ¬ ns[j] = nm) → nameFrom nm ns i = ((i + k : Nat) : Int) := by
    intro ns
    induction ns with
    | nil => intro i k hk; simp at hk
    | cons y r ih =>
      intro i k hk h1 h2
      unfold nameFrom
      cases k with
      | zero => rw [if_pos (by simpa using h1)]; omega
      | succ k =>
        rw [if_neg (by have := h2 0 (by simp) (by omega); simpa using this)]
        rw [ih (i + 1) k (by simpa using hk) (by simpa using h1) (fun j hj hlt => by have := h2 (j + 1) (by simpa using hj) (by omega); simpa using this)]
        omega
  have := key (l.map Sc.nm) 0 k (by simpa using hk) (by rw [List.getElem_map]; rwa [getElem!_pos l k hk] at h) (fun j hj hlt => by
    have hj' : j < l.length := by simpa using hj
    have := hne j hlt
    rw [getElem!_pos l j hj'] at this
    rw [List.getElem_map]; exact this)
  rw [this]; omega
theorem findS_miss {l : List Sc} {nm : ByteArray} (hne : ∀ j, j < l.length → ¬ l[j]!.nm = nm) : atS l nm = -1 := by
  refine atS_none fun h => ?_
  obtain ⟨s, hs, e⟩ := List.mem_map.1 h
  obtain ⟨j, hj, rfl⟩ := List.mem_iff_getElem.1 hs
  have := hne j hj
  rw [getElem!_pos l j hj] at this
  exact this e
/- What a look for a name answers. -/
def Found (w : World) (l : List Sc) (nm : ByteArray) (e : Ending) (w' : World) : Prop :=
  (∃ u b, e = .returned (.tuple #[u, .bool b]) ∧ ((atS l nm < 0 ∧ u = zSc ∧ b = false) ∨ (∃ j : Nat, j < l.length ∧ atS l nm = (j : Int) ∧ b = true ∧ ScAt w' u l[j]!))) ∧ Below w.heap.size w w'
theorem Found.none {w : World} {l : List Sc} {nm : ByteArray} {e : Ending} {w' : World} (h : Found w l nm e w') (hn : atS l nm < 0) : e = .returned (.tuple #[zSc, .bool false]) ∧ Below w.heap.size w w' := by
  obtain ⟨⟨u, b, rfl, ⟨_, rfl, rfl⟩ | ⟨j, _, h2, _⟩⟩, hb⟩ := h
  · exact ⟨rfl, hb⟩
  · omega
theorem Found.some {w : World} {l : List Sc} {nm : ByteArray} {e : Ending} {w' : World} (h : Found w l nm e w') {j : Nat} (hn : atS l nm = (j : Int)) : (∃ u, e = .returned (.tuple #[u, .bool true]) ∧ ScAt w' u l[j]!) ∧ Below w.heap.size w w' := by
  obtain ⟨⟨u, b, rfl, ⟨h1, rfl, rfl⟩ | ⟨i, _, h2, rfl, h3⟩⟩, hb⟩ := h
  · omega
  · obtain rfl : i = j := by omega
    exact ⟨⟨u, rfl, h3⟩, hb⟩
set_option maxRecDepth 100000 in
set_option maxHeartbeats 1000000 in
theorem rsfind_any {v : Value} {l : List Sc} {nm : ByteArray} {w : World} (hv : SchsAt w v l) :
    Calls Tryz.prog 38 #[v, .string nm] w (Found w l nm) := by
  obtain ⟨hs, ⟨p, cap, rfl, hcap, hmax, hx⟩, hh⟩ := hv
  unfold maxLen at hmax
  have HX := hid hx
  have HH := hid hh
  have hl := hh.1
  clear hx hh
  generalize hn : hs.length = n at *
  have HN := hid hn
  have HL := hid hl
  clear hn hl
  have HB0 := hid ((Below.refl w.heap.size w).alloc (Nat.le_refl _) (.cells #[.string ⟨#[]⟩, .slice none 0 0, .slice none 0 0] 52))
  have KB0 := hid (alloc_block w (.cells #[.string ⟨#[]⟩, .slice none 0 0, .slice none 0 0] 52))
  go_enter Tryz.func38, Tryz.ntmps38
  go_wp2_with fail
  generalize (w.alloc (.cells #[.string ⟨#[]⟩, .slice none 0 0, .slice none 0 0] 52)) = W at *
  go_loopw [6] (fun i wr => ∃ k : Nat, k ≤ n ∧ i = .int .i64 k ∧ W = wr ∧ Hid (∀ j, j < k → ¬ l[j]!.nm = nm)) (fun i _ => n - (intOf i).toNat)
  case atStart => exact ⟨0, by omega, rfl, rfl, fun j h => absurd h (Nat.not_lt_zero _)⟩
  case round =>
    obtain ⟨k, hk, rfl, rfl, HA⟩ := hrel
    have kb := block_cell KB0.out
    have fz := frozen_no KB0.out
    by_cases hlt : k < n
    · have hkh : k < hs.length := by rw [HN.out]; exact hlt
      have hkl : k < l.length := by rw [← HL.out]; exact hlt
      obtain ⟨b, o, rfl, -, hj⟩ := HX.out (by intro e; subst e; simp at hkh)
      obtain ⟨c0, c1, c2⟩ := sh_cells ((hj k _ (get!_some hkh)).on HB0.out)
      have hsi := HH.out.2 k _ _ (get!_some hkh) (get!_some hkl)
      generalize hs[k]! = hd at c0 c1 c2 hsi
      obtain ⟨pk, nk, ck, pv, nv, cv, rfl⟩ := sh_form hsi
      dsimp only at c0 c1 c2
      have HSI := hid hsi
      have hbw := block_lt_of_cell c0
      have hne0 : b ≠ w.heap.size := by
        have := block_lt_of_cell (hj k _ (get!_some hkh) 0 _ rfl)
        simp at this
        omega
      generalize hlk : l[k]! = s at *
      have HLK := hid hlk
      clear hsi hlk hj
      have hq := bytes_beq s.nm nm
      by_cases he : s.nm = nm
      · have HE := hid he
        rw [decide_eq_true he] at hq
        clear he
        go_wp2_with fail
        have KF := Joins.block_setCell (i := 2) (Joins.block_setCell (i := 1) (Joins.block_setCell (i := 0) KB0.out (.string s.nm)) (.slice pk nk ck)) (.slice pv nv cv)
        have HBF : Below w.heap.size w (((W.setCell ⟨w.heap.size, 0, none⟩ (.string s.nm)).setCell ⟨w.heap.size, 1, none⟩ (.slice pk nk ck)).setCell ⟨w.heap.size, 2, none⟩ (.slice pv nv cv)) := ((HB0.out.setCell (Nat.le_refl _) _).setCell (Nat.le_refl _) _).setCell (Nat.le_refl _) _
        generalize (((W.setCell ⟨w.heap.size, 0, none⟩ (.string s.nm)).setCell ⟨w.heap.size, 1, none⟩ (.slice pk nk ck)).setCell ⟨w.heap.size, 2, none⟩ (.slice pv nv cv)) = WF at KF HBF ⊢
        have kcf := block_cell KF
        clear KF kb fz c0 c1 c2
        refine bodyPost_ret (v := .tuple #[.agg #[.string s.nm, .slice pk nk ck, .slice pv nv cv], .bool true]) (by simp [results, Tryz.results38, go_sem, kcf]) rfl ⟨⟨_, _, rfl, .inr ⟨k, hkl, findS_hit hkl (by rw [HLK.out]; exact HE.out) HA.out, rfl, ?_⟩⟩, HBF⟩
        rw [HLK.out]
        exact ⟨_, _, rfl, HSI.out.ks.on HBF, HSI.out.vs.on HBF⟩
      · have HE := hid he
        rw [decide_eq_false he] at hq
        clear he
        go_wp2_with fail
        go_roundw
        case rel =>
          refine ⟨k + 1, by omega, by go_num, by trivial, fun j h => ?_⟩
          by_cases e : j = k
          · subst e; rw [HLK.out]; exact HE.out
          · exact HA.out j (by omega)
        case measure => simp [intOf]; omega
    · have hks : k = n := by omega
      subst hks
      go_wp2_with fail
      have KF := Joins.block_setCell (i := 2) (Joins.block_setCell (i := 1) (Joins.block_setCell (i := 0) KB0.out (.string ⟨#[]⟩)) (.slice none 0 0)) (.slice none 0 0)
      have HBF : Below w.heap.size w (((W.setCell ⟨w.heap.size, 0, none⟩ (.string ⟨#[]⟩)).setCell ⟨w.heap.size, 1, none⟩ (.slice none 0 0)).setCell ⟨w.heap.size, 2, none⟩ (.slice none 0 0)) := ((HB0.out.setCell (Nat.le_refl _) _).setCell (Nat.le_refl _) _).setCell (Nat.le_refl _) _
      generalize (((W.setCell ⟨w.heap.size, 0, none⟩ (.string ⟨#[]⟩)).setCell ⟨w.heap.size, 1, none⟩ (.slice none 0 0)).setCell ⟨w.heap.size, 2, none⟩ (.slice none 0 0)) = WF at KF HBF ⊢
      have kcf := block_cell KF
      clear KF kb fz
      have hm := findS_miss (l := l) (nm := nm) (by rw [← HL.out]; exact HA.out)
      exact bodyPost_ret (v := .tuple #[zSc, .bool false]) (by simp [results, Tryz.results38, go_sem, kcf, zSc]) rfl ⟨⟨_, _, rfl, .inl ⟨by omega, rfl, rfl⟩⟩, HBF⟩
theorem rvalid_is5 {x : Vl} {r : Bool} {w : World} (h : validL x = r) : Calls Tryz.prog 67 #[x.val] w fun e w' => e = .returned (.bool r) ∧ Below w.heap.size w w' := by rw [← h]; exact rvalid_any
set_option maxRecDepth 100000 in
set_option maxHeartbeats 2000000 in
theorem rfill_any {u v : Value} {cs : List Cl} {r : Rw} {w : World} (hu : RowAt w u r) (hv : ColsAt w v cs) :
    Calls Tryz.prog 58 #[u, v] w fun e w' => e = .returned (.bool (rowB cs r)) ∧ Below w.heap.size w w' := by
  obtain ⟨p, cap, rfl, hcap, hmax, hx⟩ := hu
  obtain ⟨p', cap', rfl, hcap', hmax', hx'⟩ := hv
  unfold maxLen at hmax hmax'
  generalize hr : rowB cs r = res
  have HR := hid hr
  have HX := hid hx
  have HX' := hid hx'
  clear hr hx hx'
  generalize hn : List.length r = n at *
  generalize hn' : cs.length = n' at *
  have HN := hid hn
  have HN' := hid hn'
  clear hn hn'
  by_cases he : n = n'
  · subst he
    go_enter Tryz.func58, Tryz.ntmps58
    go_wp2_with fail
    go_loopw [5] (fun i wr => ∃ k : Nat, k ≤ n ∧ i = .int .i64 k ∧ Hid (Below w.heap.size w wr) ∧ Hid (∀ j, j < k → fitB cs[j]!.kd r[j]! = true)) (fun i _ => n - (intOf i).toNat)
    case atStart => exact ⟨0, by omega, rfl, Below.refl _ _, fun j h => absurd h (Nat.not_lt_zero _)⟩
    case round =>
      obtain ⟨k, hk, rfl, HB, HA⟩ := hrel
      by_cases hlt : k < n
      · have hkr : k < List.length r := by rw [HN.out]; exact hlt
        have hkc : k < cs.length := by rw [HN'.out]; exact hlt
        obtain ⟨b, o, rfl, -, hj⟩ := HX.out (by intro e; subst e; simp at hkr)
        obtain ⟨b', o', rfl, -, hj'⟩ := HX'.out (by intro e; subst e; simp at hkc)
        obtain ⟨c0, c1, c2, c3, c4, c5, c6, c7, c8, c9, c10⟩ := val_cells ((hj k _ (get!_some hkr)).on HB.out)
        obtain ⟨-, d1⟩ := col_cells ((hj' k _ (get!_some hkc)).on HB.out)
        generalize hcc : cs[k]! = c at d1
        generalize hvv : r[k]! = x at c0 c1 c2 c3 c4 c5 c6 c7 c8 c9 c10
        have HCC := hid hcc
        have HVV := hid hvv
        clear hcc hvv hj hj'
        replace c0 := regrown_cell c0
        replace c1 := regrown_cell c1
        replace c2 := regrown_cell c2
        replace c3 := regrown_cell c3
        replace c4 := regrown_cell c4
        replace c5 := regrown_cell c5
        replace c6 := regrown_cell c6
        replace c7 := regrown_cell c7
        replace c8 := regrown_cell c8
        replace c9 := regrown_cell c9
        replace c10 := regrown_cell c10
        replace d1 := regrown_cell d1
        by_cases hkd : x.k = c.kd
        · have hne : (x.k != c.kd) = false := by simpa using hkd
          have HKD := hid hkd
          clear hkd
          cases hval : validL x with
          | true =>
            go_wp2_with fail
            refine wp_region_quiet_below (by kernel_rfl) (by kernel_rfl) ?_
            repeat (go_big_quiet_step (first | (go_at_call 67; exact Calls.regrown_of (rvalid_is5 hval))))
            refine wpQuiet_nil ?_
            intro _ hw'
            obtain ⟨⟨dq, osq⟩, hw''⟩ := hw'
            subst hw''
            go_wp2
            go_roundw
            case rel =>
              refine ⟨k + 1, by omega, by go_num, below_on HB.out (below_regrown wr dq osq), fun j h => ?_⟩
              by_cases e : j = k
              · subst e; rw [HCC.out, HVV.out, fit_is HKD.out]; exact hval
              · exact HA.out j (by omega)
            case measure => simp [intOf]; omega
          | false =>
            go_wp2_with fail
            refine wp_region_quiet_below (by kernel_rfl) (by kernel_rfl) ?_
            repeat (go_big_quiet_step (first | (go_at_call 67; exact Calls.regrown_of (rvalid_is5 hval))))
            refine wpQuiet_nil ?_
            intro _ hw'
            obtain ⟨⟨dq, osq⟩, hw''⟩ := hw'
            subst hw''
            go_wp2
            go_ret
            exact ⟨ret_bool ((rowB_bad hkr (by rw [HCC.out, HVV.out, fit_is HKD.out]; exact hval)).symm.trans HR.out), below_on HB.out (below_regrown wr dq osq)⟩
        · have hne : (x.k != c.kd) = true := by simpa using hkd
          have HKD := hid hkd
          clear hkd
          go_wp2_with fail
          refine wp_region_quiet_below (by kernel_rfl) (by kernel_rfl) ?_
          repeat (go_big_quiet_step (fail))
          refine wpQuiet_nil ?_
          intro _ hw'
          obtain ⟨⟨dq, osq⟩, hw''⟩ := hw'
          subst hw''
          go_wp2
          go_ret
          exact ⟨ret_bool ((rowB_bad hkr (by rw [HCC.out, HVV.out]; exact fit_no HKD.out)).symm.trans HR.out), below_on HB.out (below_regrown wr dq osq)⟩
      · have hks : k = n := by omega
        subst hks
        go_wp2
        go_ret
        exact ⟨ret_bool ((rowB_yes (by rw [HN.out, HN'.out]) (by rw [HN.out]; exact HA.out)).symm.trans HR.out), HB.out⟩
  · have hne : ((n : Int) != (n' : Int)) = true := by simp; omega
    go_enter Tryz.func58, Tryz.ntmps58
    go_wp2
    go_ret
    exact ⟨ret_bool ((rowB_no (by rw [HN.out, HN'.out]; exact he)).symm.trans HR.out), Below.refl _ _⟩
theorem rfill_is {u v : Value} {cs : List Cl} {r : Rw} {w : World} {q : Bool} (hu : RowAt w u r) (hv : ColsAt w v cs) (h : rowB cs r = q) :
    Calls Tryz.prog 58 #[u, v] w fun e w' => e = .returned (.bool q) ∧ Below w.heap.size w w' := by rw [← h]; exact rfill_any hu hv
end Go.Proofs.YtlbjbkhcnafhcaaGreat
namespace Go.Proofs.YtlbjbkhcnafhcaaGreat
open Go.RowKit Go.Sort Go.Shelf

theorem blk_upS {w : World} {b : Nat} {o : Obj} (h : w.heap[b]? = some o) (x : Obj) : (w.alloc x).heap[b]? = some o := block_on h ((Below.refl _ _).alloc (Nat.le_refl _) x)
theorem rfind_none {v : Value} {l : List Sc} {nm : ByteArray} {w : World} (hv : SchsAt w v l) (hn : atS l nm < 0) : Calls Tryz.prog 38 #[v, .string nm] w fun e w' => e = .returned (.tuple #[.agg #[.string ⟨#[]⟩, .slice none 0 0, .slice none 0 0], .bool false]) ∧ Below w.heap.size w w' :=
  (rsfind_any hv).mono fun _ _ h => h.none hn
theorem sc_form {w : World} {u : Value} {s : Sc} (h : ScAt w u s) : ∃ pk nk ck pv nv cv, u = .agg #[.string s.nm, .slice pk nk ck, .slice pv nv cv] ∧ ColsAt w (.slice pk nk ck) s.ks ∧ ColsAt w (.slice pv nv cv) s.vs := by
  obtain ⟨kv, vv, rfl, h1, h2⟩ := h
  have k1 := h1
  have k2 := h2
  obtain ⟨pk, ck, rfl, -⟩ := h1
  obtain ⟨pv, cv, rfl, -⟩ := h2
  exact ⟨_, _, _, _, _, _, rfl, k1, k2⟩
def FoundAt (w : World) (s : Sc) (e : Ending) (w' : World) : Prop := ∃ pk nk ck pv nv cv, e = .returned (.tuple #[.agg #[.string s.nm, .slice pk nk ck, .slice pv nv cv], .bool true]) ∧ ColsAt w' (.slice pk nk ck) s.ks ∧ ColsAt w' (.slice pv nv cv) s.vs ∧ Below w.heap.size w w'
theorem rfind_some {v : Value} {l : List Sc} {nm : ByteArray} {w : World} {j : Nat} (hv : SchsAt w v l) (hn : atS l nm = (j : Int)) : Calls Tryz.prog 38 #[v, .string nm] w (FoundAt w l[j]!) :=
  (rsfind_any hv).mono fun _ _ h => by
    obtain ⟨⟨u, rfl, hs⟩, hb⟩ := h.some hn
    obtain ⟨pk, nk, ck, pv, nv, cv, rfl, h1, h2⟩ := sc_form hs
    exact ⟨_, _, _, _, _, _, rfl, h1, h2, hb⟩
set_option maxRecDepth 100000 in
set_option maxHeartbeats 4000000 in
theorem rsfits_any {v u : Value} {l : List Sc} {p : Pt} {w : World} (hv : SchsAt w v l) (hp : PtAt w u p) :
    Calls Tryz.prog 31 #[v, u] w fun e w' => e = .returned (.int .i64 (fitsS l p)) ∧ Below w.heap.size w w' := by
  have HV := hid hv
  obtain ⟨hs, ⟨q, cap, rfl, -⟩, -⟩ := hv
  obtain ⟨kv, vv, rfl, hk1, hk2⟩ := hp
  have HK := hid hk1
  have HW := hid hk2
  obtain ⟨pk, ck, rfl, -⟩ := hk1
  obtain ⟨pv, cv, rfl, -⟩ := hk2
  generalize List.length p.ks = nk at *
  generalize List.length p.vs = nv at *
  generalize hr : fitsS l p = r
  have HR := hid hr
  clear hr
  generalize hs.length = n at *
  have HB := hid ((Below.refl w.heap.size w).alloc (Nat.le_refl _) (.cells #[.string p.sc, .slice pk nk ck, .int .i64 p.tm, .slice pv nv cv] 34))
  have KB := hid (alloc_block w (.cells #[.string p.sc, .slice pk nk ck, .int .i64 p.tm, .slice pv nv cv] 34))
  by_cases hneg : atS l p.sc < 0
  · have HNG := hid hneg
    clear hneg
    go_enter Tryz.func31, Tryz.ntmps31
    go_wp2_with (go_at_call 38; refine (rfind_none (HV.out.on HB.out) HNG.out).mono ?_; rintro e w1 ⟨rfl, hb1⟩)
    go_ret
    exact ⟨ret_int ((fits_none HNG.out).symm.trans HR.out), (below_on HB.out hb1).alloc (below_on HB.out hb1).size _⟩
  · obtain ⟨j, hj, hat⟩ := at_nat hneg
    generalize hs0 : l[j]! = s
    have HS0 := hid hs0
    have HAT := hid hat
    have HFD : Hid (∀ W, SchsAt W (.slice q n cap) l → Calls Tryz.prog 38 #[.slice q n cap, .string p.sc] W (FoundAt W s)) := fun W hW => by rw [← HS0.out]; exact rfind_some hW HAT.out
    clear hneg hat hs0
    generalize h1 : rowB s.ks p.ks = a
    generalize h2 : rowB s.vs p.vs = c
    have H1 := hid h1
    have H2 := hid h2
    clear h1 h2
    have M1 : Hid True := trivial
    cases a with
    | false =>
      go_enter Tryz.func31, Tryz.ntmps31
      go_wp2_with (first
        | (go_at_call 38; refine (HFD.out _ (HV.out.on HB.out)).mono ?_; rintro e w1 ⟨qk, mk, dk, qv, mv, dv, rfl, g1, g2, hb1⟩; have HB1 := hid (below_on HB.out hb1); have HB2 := hid (HB1.out.alloc HB1.out.size (.cells #[.string s.nm, .slice qk mk dk, .slice qv mv dv] 52)); have kb := block_cell (block_on KB.out hb1); have G1 := hid (ColsAt.on g1 ((Below.refl _ _).alloc (Nat.le_refl _) (.cells #[.string s.nm, .slice qk mk dk, .slice qv mv dv] 52))); have hlb := lt_of_block (block_on KB.out hb1); clear g1 g2 hb1)
        | (go_at_call 58; refine (rfill_is (HK.out.on HB2.out) G1.out H1.out).mono ?_; rintro e w3 ⟨rfl, hb3⟩))
      go_ret
      exact ⟨ret51 (r := false) HR.out HAT.out (by rw [HS0.out]; exact fit_parts H1.out H2.out rfl rfl) rfl, below_on HB2.out hb3⟩
    | true =>
      cases c with
      | false =>
        go_enter Tryz.func31, Tryz.ntmps31
        go_wp2_with (first
          | (go_at_call 38; refine (HFD.out _ (HV.out.on HB.out)).mono ?_; rintro e w1 ⟨qk, mk, dk, qv, mv, dv, rfl, g1, g2, hb1⟩; have HB1 := hid (below_on HB.out hb1); have HB2 := hid (HB1.out.alloc HB1.out.size (.cells #[.string s.nm, .slice qk mk dk, .slice qv mv dv] 52)); have kb := block_cell (block_on KB.out hb1); have KC := hid (blk_upS (block_on KB.out hb1) (.cells #[.string s.nm, .slice qk mk dk, .slice qv mv dv] 52)); have KD := hid (alloc_block w1 (.cells #[.string s.nm, .slice qk mk dk, .slice qv mv dv] 52)); have G1 := hid (ColsAt.on g1 ((Below.refl _ _).alloc (Nat.le_refl _) (.cells #[.string s.nm, .slice qk mk dk, .slice qv mv dv] 52))); have G2 := hid (ColsAt.on g2 ((Below.refl _ _).alloc (Nat.le_refl _) (.cells #[.string s.nm, .slice qk mk dk, .slice qv mv dv] 52))); have hlb := lt_of_block (block_on KB.out hb1); clear g1 g2 hb1)
          | (go_at_call 58; have FIRST := M1; refine (rfill_is (HK.out.on HB2.out) G1.out H1.out).mono ?_; rintro e w3 ⟨rfl, hb3⟩; have HB3 := hid (below_on HB2.out hb3); have kc3 := block_cell (block_on KC.out hb3); have kd3 := block_cell (block_on KD.out hb3); have G3 := hid (ColsAt.on G2.out hb3); clear hb3 M1 FIRST kb)
          | (go_at_call 58; refine (rfill_is (HW.out.on HB3.out) G3.out H2.out).mono ?_; rintro e w4 ⟨rfl, hb4⟩))
        go_ret
        exact ⟨ret51 (r := false) HR.out HAT.out (by rw [HS0.out]; exact fit_parts H1.out H2.out rfl rfl) rfl, below_on HB3.out hb4⟩
      | true =>
        have key : ∀ (c d : Bool), decide (p.tm < 0) = c → decide (1099511627776 ≤ p.tm) = d → Hid (fitP l[j]! p = (!c && !d)) := fun c d hc hd => by
          show fitP l[j]! p = (!c && !d)
          rw [HS0.out, fit_parts H1.out H2.out (c := !c) (d := !d) (by rw [← hc]; by_cases h : p.tm < 0 <;> simp [h] <;> omega) (by rw [← hd]; by_cases h : 1099511627776 ≤ p.tm <;> simp [h] <;> omega)]; rfl
        by_cases h3 : p.tm < 0
        · have KEY := key true _ (decide_eq_true h3) rfl
          clear key
          go_enter Tryz.func31, Tryz.ntmps31
          go_wp2_with (first
            | (go_at_call 38; refine (HFD.out _ (HV.out.on HB.out)).mono ?_; rintro e w1 ⟨qk, mk, dk, qv, mv, dv, rfl, g1, g2, hb1⟩; have HB1 := hid (below_on HB.out hb1); have HB2 := hid (HB1.out.alloc HB1.out.size (.cells #[.string s.nm, .slice qk mk dk, .slice qv mv dv] 52)); have kb := block_cell (block_on KB.out hb1); have KC := hid (blk_upS (block_on KB.out hb1) (.cells #[.string s.nm, .slice qk mk dk, .slice qv mv dv] 52)); have KD := hid (alloc_block w1 (.cells #[.string s.nm, .slice qk mk dk, .slice qv mv dv] 52)); have G1 := hid (ColsAt.on g1 ((Below.refl _ _).alloc (Nat.le_refl _) (.cells #[.string s.nm, .slice qk mk dk, .slice qv mv dv] 52))); have G2 := hid (ColsAt.on g2 ((Below.refl _ _).alloc (Nat.le_refl _) (.cells #[.string s.nm, .slice qk mk dk, .slice qv mv dv] 52))); have hlb := lt_of_block (block_on KB.out hb1); clear g1 g2 hb1)
            | (go_at_call 58; have FIRST := M1; refine (rfill_is (HK.out.on HB2.out) G1.out H1.out).mono ?_; rintro e w3 ⟨rfl, hb3⟩; have HB3 := hid (below_on HB2.out hb3); have KC3 := hid (block_on KC.out hb3); have kc3 := block_cell KC3.out; have kd3 := block_cell (block_on KD.out hb3); have G3 := hid (ColsAt.on G2.out hb3); clear hb3 M1 FIRST kb)
            | (go_at_call 58; refine (rfill_is (HW.out.on HB3.out) G3.out H2.out).mono ?_; rintro e w4 ⟨rfl, hb4⟩; have HB4 := hid (below_on HB3.out hb4); have kc4 := block_cell (block_on KC3.out hb4); clear hb4 kc3 kd3))
          go_ret
          exact ⟨ret51 (r := false) HR.out HAT.out KEY.out rfl, HB4.out⟩
        · by_cases h4 : 1099511627776 ≤ p.tm
          · have KEY := key false true (decide_eq_false h3) (decide_eq_true h4)
            clear key
            go_enter Tryz.func31, Tryz.ntmps31
            go_wp2_with (first
              | (go_at_call 38; refine (HFD.out _ (HV.out.on HB.out)).mono ?_; rintro e w1 ⟨qk, mk, dk, qv, mv, dv, rfl, g1, g2, hb1⟩; have HB1 := hid (below_on HB.out hb1); have HB2 := hid (HB1.out.alloc HB1.out.size (.cells #[.string s.nm, .slice qk mk dk, .slice qv mv dv] 52)); have kb := block_cell (block_on KB.out hb1); have KC := hid (blk_upS (block_on KB.out hb1) (.cells #[.string s.nm, .slice qk mk dk, .slice qv mv dv] 52)); have KD := hid (alloc_block w1 (.cells #[.string s.nm, .slice qk mk dk, .slice qv mv dv] 52)); have G1 := hid (ColsAt.on g1 ((Below.refl _ _).alloc (Nat.le_refl _) (.cells #[.string s.nm, .slice qk mk dk, .slice qv mv dv] 52))); have G2 := hid (ColsAt.on g2 ((Below.refl _ _).alloc (Nat.le_refl _) (.cells #[.string s.nm, .slice qk mk dk, .slice qv mv dv] 52))); have hlb := lt_of_block (block_on KB.out hb1); clear g1 g2 hb1)
              | (go_at_call 58; have FIRST := M1; refine (rfill_is (HK.out.on HB2.out) G1.out H1.out).mono ?_; rintro e w3 ⟨rfl, hb3⟩; have HB3 := hid (below_on HB2.out hb3); have KC3 := hid (block_on KC.out hb3); have kc3 := block_cell KC3.out; have kd3 := block_cell (block_on KD.out hb3); have G3 := hid (ColsAt.on G2.out hb3); clear hb3 M1 FIRST kb)
              | (go_at_call 58; refine (rfill_is (HW.out.on HB3.out) G3.out H2.out).mono ?_; rintro e w4 ⟨rfl, hb4⟩; have HB4 := hid (below_on HB3.out hb4); have kc4 := block_cell (block_on KC3.out hb4); clear hb4 kc3 kd3))
            go_ret
            exact ⟨ret51 (r := false) HR.out HAT.out KEY.out rfl, HB4.out⟩
          · have KEY := key false false (decide_eq_false h3) (decide_eq_false h4)
            clear key
            go_enter Tryz.func31, Tryz.ntmps31
            go_wp2_with (first
              | (go_at_call 38; refine (HFD.out _ (HV.out.on HB.out)).mono ?_; rintro e w1 ⟨qk, mk, dk, qv, mv, dv, rfl, g1, g2, hb1⟩; have HB1 := hid (below_on HB.out hb1); have HB2 := hid (HB1.out.alloc HB1.out.size (.cells #[.string s.nm, .slice qk mk dk, .slice qv mv dv] 52)); have kb := block_cell (block_on KB.out hb1); have KC := hid (blk_upS (block_on KB.out hb1) (.cells #[.string s.nm, .slice qk mk dk, .slice qv mv dv] 52)); have KD := hid (alloc_block w1 (.cells #[.string s.nm, .slice qk mk dk, .slice qv mv dv] 52)); have G1 := hid (ColsAt.on g1 ((Below.refl _ _).alloc (Nat.le_refl _) (.cells #[.string s.nm, .slice qk mk dk, .slice qv mv dv] 52))); have G2 := hid (ColsAt.on g2 ((Below.refl _ _).alloc (Nat.le_refl _) (.cells #[.string s.nm, .slice qk mk dk, .slice qv mv dv] 52))); have hlb := lt_of_block (block_on KB.out hb1); clear g1 g2 hb1)
              | (go_at_call 58; have FIRST := M1; refine (rfill_is (HK.out.on HB2.out) G1.out H1.out).mono ?_; rintro e w3 ⟨rfl, hb3⟩; have HB3 := hid (below_on HB2.out hb3); have KC3 := hid (block_on KC.out hb3); have kc3 := block_cell KC3.out; have kd3 := block_cell (block_on KD.out hb3); have G3 := hid (ColsAt.on G2.out hb3); clear hb3 M1 FIRST kb)
              | (go_at_call 58; refine (rfill_is (HW.out.on HB3.out) G3.out H2.out).mono ?_; rintro e w4 ⟨rfl, hb4⟩; have HB4 := hid (below_on HB3.out hb4); have kc4 := block_cell (block_on KC3.out hb4); clear hb4 kc3 kd3))
            go_ret
            exact ⟨ret51 (r := true) HR.out HAT.out KEY.out rfl, HB4.out⟩
end Go.Proofs.YtlbjbkhcnafhcaaGreat
namespace Go.Proofs.YtlbjbkhcnafhcaaGreat
open Go.RowKit Go.Sort Go.Shelf

theorem step_appC {ops : Array Oper} {o : Oper} {a : Act} {w : World} {K : Act → World → Prop} {Q : Exit → Act → World → Prop} {E : Prop} {α : Type} {enc : α → List Value} {k e t B : Nat} {Qb : Nat → Prop} {xs ys : List α} {v u : Value}
    (hE : Elem t e k) (hk : ∀ x, (enc x).length = k) (h1 : ∀ y ∈ ys, ∀ c ∈ enc y, c.oneCell' = true) (hgd : o.guard = none) (s x : Operand) (ho : o.op = .call { callee := .builtin .append, args := #[s, x], argTypes := #[t, t] })
    (hs : a.eval s = v) (hx : a.eval x = u) (hown : Own enc k e B w v xs) (hu : SlAt Qb enc k w u ys) (hb : (xs.length + ys.length) * bsz k ≤ 140737488355328) (hB : B ≤ w.heap.size)
    (h : ∀ v' w', Own enc k e B w' v' (xs ++ ys) → Below B w w' → w.grownBy w' v.ownBlock → K (a.put o.dst v') w') : if Region.wanted o (yielded ops a.tmps) = true then Oper.wp Tryz.prog o a w K Q else E := by
  have hw : Region.wanted o (yielded ops a.tmps) = true := by simp [Region.wanted, hgd]
  rw [if_pos hw]
  obtain ⟨ht, hkp, i0, z, hi, hz0, hz1, hz2, hzs⟩ := hE
  obtain ⟨p, cap, rfl, ⟨hcap, hnone⟩, hmax, hy⟩ := hu
  cases p with
  | none =>
    have hn : ys = [] := by
      cases ys with
      | nil => rfl
      | cons y r => obtain ⟨b, o, hp, _⟩ := hy (by simp); cases hp
    subst hn
    have hc := hnone rfl
    subst hc
    have hrun := run_append_owned_none (P := Tryz.prog) (w := w) B t o.type e i0 k ht hi v xs.length _ hown
    have hx' : a.eval x = .slice none 0 0 := by rw [hx]; rfl
    unfold Oper.wp
    simp [execOp, ho, resolve, invoke, builtin, hs, hx', hrun, Result.andThen]
    exact h v w (by rw [List.append_nil]; exact hown) (Below.refl _ _) ⟨rfl, rfl, rfl, Nat.le_refl _, fun _ _ _ => rfl⟩
  | some ad =>
    refine wp_append_own w s x t ho B e i0 z k i0.bytes ht hi hz0 hz1 rfl hzs hkp v xs.length _ hs hown ad ys.length cap (ys.flatMap enc) hx (flat_length hk ys) ?_ ?_ ?_ (Nat.le_trans (Nat.mul_le_mul_left _ hz2) hb) hB ?_
    · intro j c hj
      have hne : ys ≠ [] := by intro e; subst e; simp at hj
      obtain ⟨b, o, hp, _, hcell⟩ := hy hne
      have hp' : ad = ⟨b, o, none⟩ := Option.some.inj hp
      rw [hp', Addr.add_lit]
      exact flat_cells hk ys o hcell j c hj
    · intro c hc
      obtain ⟨y, hy', hcy⟩ := List.mem_flatMap.1 hc
      exact h1 y hy' c hcy
    · unfold maxLen; unfold bsz at hb; split at hb <;> omega
    · intro v' w' h2 h3 _
      refine h v' w' ?_ ((Below.refl B w).grown h3 hB (fun j e => (hown.lt j e))) h3
      show w'.ownsRow B e k v' (xs ++ ys).length ((xs ++ ys).flatMap enc)
      rw [List.length_append, List.flatMap_append]; exact h2
abbrev B2 (bx : Nat) (a b : Value) (w : World) : Prop := w.cell? ⟨bx, 1, none⟩ = some a ∧ w.cell? ⟨bx, 2, none⟩ = some b
theorem b2D {w : World} {bx : Nat} {a b : Value} (h : B2 bx a b w) : B2 bx a b w.drew := h
theorem b2A {w : World} {bx : Nat} {a b : Value} (h : B2 bx a b w) (o : Obj) : B2 bx a b (w.alloc o) := ⟨Lib.cell?_alloc_some _ h.1, Lib.cell?_alloc_some _ h.2⟩
theorem b2On {w w' : World} {bx : Nat} {a b : Value} (h : B2 bx a b w) (hb : Below w.heap.size w w') : B2 bx a b w' := ⟨cell_on h.1 hb, cell_on h.2 hb⟩
theorem own_c1 {B : Nat} {w : World} {c : Cl} (hB : B ≤ w.heap.size) : Own Cl.cells 2 90 B (w.alloc (.cells #[.string c.nm, .int .i64 c.kd] 90)) (.slice (some ⟨w.heap.size, 0, none⟩) 1 1) [c] :=
  ⟨rfl, .inr ⟨w.heap.size, 1, _, rfl, hB, alloc_block w _, Nat.le_refl _, by decide, rfl, rfl⟩⟩
theorem small2 {n : Nat} (h : n ≤ 4000000) : n * bsz 2 ≤ 140737488355328 := by unfold bsz; simp; omega
theorem lowD (w : World) (o : Obj) : Below w.heap.size w (w.drew.alloc o) := (Below.refl w.heap.size w).drew.alloc (Nat.le_refl _) o
set_option maxRecDepth 100000 in
set_option maxHeartbeats 1000000 in
theorem rscols_any {v : Value} {s : Sc} {w : World} (hv : ScAt w v s) (hl : s.ks.length + s.vs.length ≤ 3000000) :
    Calls Tryz.prog 39 #[v] w fun e w' => ∃ u, e = .returned u ∧ ColsAt w' u (colsS s) ∧ Below w.heap.size w w' := by
  obtain ⟨pk, nk, ck, pv, nv, cv, rfl, h1, h2⟩ := sc_form hv
  have HK := hid h1
  have HV := hid h2
  have HL := hid hl
  clear h1 h2 hl hv
  have HB := hid ((Below.refl w.heap.size w).alloc (Nat.le_refl _) (.cells #[.string s.nm, .slice pk nk ck, .slice pv nv cv] 52))
  have KB := hid (alloc_block w (.cells #[.string s.nm, .slice pk nk ck, .slice pv nv cv] 52))
  go_enter Tryz.func39, Tryz.ntmps39
  go_wp2_with fail
  have hO : Own Cl.cells 2 90 (w.heap.size + 1) ((w.alloc (.cells #[.string s.nm, .slice pk nk ck, .slice pv nv cv] 52)).alloc (.cells #[.string ⟨#[116, 105, 109, 101]⟩, .int .i64 1] 90)) (.slice (some ⟨w.heap.size + 1, 0, none⟩) 1 1) [cTime] := by
    have h := own_c1 (c := cTime) (Nat.le_refl (w.alloc (.cells #[.string s.nm, .slice pk nk ck, .slice pv nv cv] 52)).heap.size)
    rw [World.size_alloc] at h
    exact h
  have HB2 := hid (HB.out.alloc HB.out.size (.cells #[.string ⟨#[116, 105, 109, 101]⟩, .int .i64 1] 90))
  have KB2 := hid (blk_upS KB.out (.cells #[.string ⟨#[116, 105, 109, 101]⟩, .int .i64 1] 90))
  have HS2 : Hid (w.heap.size + 1 ≤ ((w.alloc (.cells #[.string s.nm, .slice pk nk ck, .slice pv nv cv] 52)).alloc (.cells #[.string ⟨#[116, 105, 109, 101]⟩, .int .i64 1] 90)).heap.size) := by show _ ≤ _; rw [World.size_alloc, World.size_alloc]; omega
  have HO := hid hO
  clear hO
  generalize ((w.alloc (.cells #[.string s.nm, .slice pk nk ck, .slice pv nv cv] 52)).alloc (.cells #[.string ⟨#[116, 105, 109, 101]⟩, .int .i64 1] 90)) = W at *
  have hS0 : B2 w.heap.size (.slice pk nk ck) (.slice pv nv cv) W := ⟨block_cell KB2.out 1, block_cell KB2.out 2⟩
  have HOD : Hid (Own Cl.cells 2 90 (w.heap.size + 1) W.drew (.slice (some ⟨w.heap.size + 1, 0, none⟩) 1 1) [cTime]) := HO.out
  have HBD : Hid (Below w.heap.size w W.drew) := HB2.out.drew
  have HKB : Hid (∀ w3, Below (w.heap.size + 1) W.drew w3 → B2 w.heap.size (.slice pk nk ck) (.slice pv nv cv) w3 ∧ Below w.heap.size w w3) := fun w3 h => by
    have h0 : w3.heap[w.heap.size]? = some (.cells #[.string s.nm, .slice pk nk ck, .slice pv nv cv] 52) := (h.block w.heap.size (Nat.lt_succ_self _)).trans KB2.out
    exact ⟨⟨block_cell h0 1, block_cell h0 2⟩, HBD.out.trans (h.mono (Nat.le_succ _))⟩
  go_region_held3 (B2 w.heap.size (.slice pk nk ck) (.slice pv nv cv)) (((repeat (first | (with_reducible refine b2D ?_) | (with_reducible refine b2A ?_ _))); (with_reducible assumption)))
    (first
    | (have FIRST := HO; refine step_appC elem45 cl_len (fun x _ => cl_cells x) rfl (.tmp 6) (.tmp 8) rfl (by simp [Act.eval]; try rfl) (by simp [Act.eval]; try rfl) HOD.out (HK.out.on HBD.out) (small2 (by have := HL.out; simp; omega)) HS2.out ?_; intro v3 w3 hown3 hb3 _; have HO3 := hid hown3; have S3 := hid hb3; have hS3 := (HKB.out w3 hb3).1; obtain ⟨p3, c3, rfl, -⟩ := (Own.sl hown3 cl_len (small2 (by have := HL.out; simp; omega))); clear hown3 hb3 FIRST HO hS0)
    | (have FIRST := HO3; refine step_appC elem45 cl_len (fun x _ => cl_cells x) rfl (.tmp 9) (.tmp 11) rfl (by simp [Act.eval]; try rfl) (by simp [Act.eval]; try rfl) HO3.out (HV.out.on (HKB.out _ S3.out).2) (small2 (by have := HL.out; simp; omega)) (Nat.le_trans HS2.out S3.out.size) ?_; intro v4 w4 hown4 hb4 _; have HO4 := hid hown4; have S4 := hid (S3.out.trans hb4); have hS4 := (HKB.out w4 S4.out).1; clear hown4 hb4 FIRST HO3 hS3))
  go_wp2_with fail
  go_ret
  exact ⟨_, rfl, (Own.sl HO4.out cl_len (small2 (by have := HL.out; simp; omega))).imp (fun _ _ => trivial), (HKB.out _ S4.out).2⟩
end Go.Proofs.YtlbjbkhcnafhcaaGreat
namespace Go.Proofs.YtlbjbkhcnafhcaaGreat
open Go.RowKit Go.Sort Go.Shelf

theorem growC_any {n : Nat} {w : World} (hn : n ≤ 4000000) :
    Calls Tryz.prog 91 #[.slice none 0 0, .int .i64 (n : Int)] w fun e w' => ∃ v', e = .returned v' ∧ Own Cl.cells 2 90 w.heap.size w' v' [] ∧ Below w.heap.size w w' := by
  by_cases h0 : n = 0
  · subst h0
    refine Calls.mono (show Calls Tryz.prog 91 _ _ _ from Any8.slices_Grow_room Tryz.growC none 0 0 0 w (Nat.le_refl _) (by omega) (by omega) (Nat.le_refl _)) ?_
    rintro e w' ⟨he, rfl⟩
    exact ⟨_, he, Own.nil _ _ _ _ _, Below.refl _ _⟩
  · obtain ⟨i, hi, hz0, hz1, hz2⟩ := info_parts info45
    refine Calls.mono (show Calls Tryz.prog 91 _ _ _ from Any8.slices_Grow_grow Tryz.growC i _ hi hz0 (by rw [hz1]; omega) none 0 0 n [] w (Nat.le_refl _) (by omega) (by rw [hz2]; omega) (by omega) (by simp) (fun _ => rfl) (fun a h => by cases h)) ?_
    rintro e w' ⟨he, rfl⟩
    refine ⟨_, he, ?_, (Below.refl _ _).drew.alloc (Nat.le_refl _) _⟩
    have hge := grownCap_ge w (0 + n) 0 90
    have hle := grownCap_le_maxLen w (0 + n) 0 90 (by unfold maxLen; omega)
    show World.ownsRow _ _ _ _ _ _ _
    refine ⟨by simp, .inr ⟨w.heap.size, _, _, rfl, Nat.le_refl _, heap_alloc_new w.drew _, Nat.zero_le _, hle, ?_, by simp⟩⟩
    have hz : (Value.agg #[.string ⟨#[]⟩, .int .i64 0]).cells.size = 2 := rfl
    simp only [Array.size_append, size_zeroCells, hz, List.size_toArray, List.length_nil]
    show _ = grownCap w (0 + n) 0 90 * 2
    have e : grownCap w (0 + n) 0 (Tryz.growC_ren.t 25) = grownCap w (0 + n) 0 90 := rfl
    rw [e]
    omega
set_option maxRecDepth 100000 in
set_option maxHeartbeats 2000000 in
theorem concatC_any {u v t : Value} {a b c : List Cl} {B : Nat} {w : World} (hblk : w.heap[B]? = some (.cells #[u, v, t] 41 (0, 0))) (hu : ColsAt w u a) (hv : ColsAt w v b) (ht : ColsAt w t c) (hl : a.length + b.length + c.length ≤ 4000000) :
    Calls Tryz.prog 64 #[.slice (some ⟨B, 0, none⟩) 3 3] w fun e w' => ∃ v', e = .returned v' ∧ ColsAt w' v' (a ++ b ++ c) ∧ Below w.heap.size w w' := by
  have HU := hid hu
  have HV := hid hv
  have HT := hid ht
  obtain ⟨pu, cu, rfl, -⟩ := hu
  obtain ⟨pv, cv, rfl, -⟩ := hv
  obtain ⟨pt, ct, rfl, -⟩ := ht
  have KB := hid hblk
  have kb := block_cell hblk
  clear hblk
  have HL := hid hl
  generalize hn : a.length = n at *
  generalize hm : b.length = m at *
  generalize hk : c.length = k at *
  have HN := hid hn
  have HM := hid hm
  have HK := hid hk
  clear hn hm hk
  go_enter Tryz.func64, Tryz.ntmps64
  go_wp2
  refine wp_loop_rounds 4 ?_
  rw [rounds_succ]
  go_wp2
  rw [rounds_succ]
  go_wp2
  rw [rounds_succ]
  go_wp2
  rw [rounds_succ]
  have hG := hid (fun W : World => growC_any (n := n + m + k) (w := W) (by omega))
  go_wp2_with (first | (go_at_call 91; refine (hG.out _).mono ?_; rintro e w1 ⟨v1, rfl, hown, hb1⟩; have HO1 := hid hown; have HB1 := hid hb1; have K1 := hid (block_on KB.out hb1); have k1 := block_cell K1.out; clear hown hb1))
  clear hG
  refine wp_loop_rounds 4 ?_
  rw [rounds_succ]
  go_wp2_with (at_builtin; refine app_any elem45 cl_len (fun x _ => cl_cells x) rfl _ _ rfl rfl HO1.out rfl (SlAt.on HU.out HB1.out) (small2 (by simp; rw [HN.out]; omega)) HB1.out.size ?_; intro v2 w2 hown2 hb2; have HO2 := hid hown2; have HB2 := hid (HB1.out.trans hb2); have K2 := hid ((hb2.block B (lt_of_block KB.out)).trans K1.out); have k2 := block_cell K2.out; clear hown2 hb2)
  rw [rounds_succ]
  go_wp2_with (at_builtin; refine app_any elem45 cl_len (fun x _ => cl_cells x) rfl _ _ rfl rfl HO2.out rfl (SlAt.on HV.out HB2.out) (small2 (by simp; rw [HN.out, HM.out]; omega)) HB2.out.size ?_; intro v3 w3 hown3 hb3; have HO3 := hid hown3; have HB3 := hid (HB2.out.trans hb3); have K3 := hid ((hb3.block B (lt_of_block KB.out)).trans K2.out); have k3 := block_cell K3.out; clear hown3 hb3)
  rw [rounds_succ]
  go_wp2_with (at_builtin; refine app_any elem45 cl_len (fun x _ => cl_cells x) rfl _ _ rfl rfl HO3.out rfl (SlAt.on HT.out HB3.out) (small2 (by simp; rw [HN.out, HM.out, HK.out]; omega)) HB3.out.size ?_; intro v4 w4 hown4 hb4; have HO4 := hid hown4; have HB4 := hid (HB3.out.trans hb4); clear hown4 hb4)
  rw [rounds_succ]
  go_wp2
  go_ret
  rw [List.nil_append] at HO4
  exact ⟨_, rfl, (Own.sl HO4.out cl_len (small2 (by simp; rw [HN.out, HM.out, HK.out]; omega))).imp (fun _ _ => trivial), HB4.out⟩
theorem time_sl {w : World} {B : Nat} (h : w.heap[B]? = some (.cells #[.string ⟨#[116, 105, 109, 101]⟩, .int .i64 1] 90)) : ColsAt w (.slice (some ⟨B, 0, none⟩) 1 1) [cTime] :=
  (lit_sl (xs := [cTime]) h cl_len rfl rfl (Nat.le_refl _) (by simp)).imp fun _ _ => trivial
set_option maxRecDepth 100000 in
set_option maxHeartbeats 1000000 in
theorem scols_any {v : Value} {s : Sc} {w : World} (hv : ScAt w v s) (hl : s.ks.length + s.vs.length ≤ 3000000) :
    Calls Tryz.prog 37 #[v] w fun e w' => ∃ u, e = .returned u ∧ ColsAt w' u (colsS s) ∧ Below w.heap.size w w' := by
  obtain ⟨pk, nk, ck, pv, nv, cv, rfl, h1, h2⟩ := sc_form hv
  have HK := hid h1
  have HV := hid h2
  have HL := hid hl
  clear h1 h2 hl hv
  have HB := hid ((Below.refl w.heap.size w).alloc (Nat.le_refl _) (.cells #[.string s.nm, .slice pk nk ck, .slice pv nv cv] 52))
  have KB := hid (alloc_block w (.cells #[.string s.nm, .slice pk nk ck, .slice pv nv cv] 52))
  have HB2 := hid (HB.out.alloc HB.out.size (.cells #[.string ⟨#[116, 105, 109, 101]⟩, .int .i64 1] 90))
  have hK2 := alloc_block (w.alloc (.cells #[.string s.nm, .slice pk nk ck, .slice pv nv cv] 52)) (.cells #[.string ⟨#[116, 105, 109, 101]⟩, .int .i64 1] 90)
  rw [World.size_alloc] at hK2
  have HB3 := hid (HB2.out.alloc HB2.out.size (.cells #[.slice (some ⟨w.heap.size + 1, 0, none⟩) 1 1, .slice pk nk ck, .slice pv nv cv] 41))
  have hK3 := alloc_block ((w.alloc (.cells #[.string s.nm, .slice pk nk ck, .slice pv nv cv] 52)).alloc (.cells #[.string ⟨#[116, 105, 109, 101]⟩, .int .i64 1] 90)) (.cells #[.slice (some ⟨w.heap.size + 1, 0, none⟩) 1 1, .slice pk nk ck, .slice pv nv cv] 41)
  rw [World.size_alloc, World.size_alloc] at hK3
  have K2 := hid (blk_upS hK2 (.cells #[.slice (some ⟨w.heap.size + 1, 0, none⟩) 1 1, .slice pk nk ck, .slice pv nv cv] 41))
  have K3 := hid hK3
  clear hK2 hK3
  go_enter Tryz.func37, Tryz.ntmps37
  go_wp2_with (go_at_call 64; refine (concatC_any K3.out (time_sl K2.out) (HK.out.on HB3.out) (HV.out.on HB3.out) (by have := HL.out; simp; omega)).mono ?_; rintro e w1 ⟨v1, rfl, hc1, hb1⟩)
  go_ret
  exact ⟨_, rfl, by rw [List.append_assoc] at hc1; exact hc1, below_on HB3.out hb1⟩
end Go.Proofs.YtlbjbkhcnafhcaaGreat
