/-
  The walk of catchmentlaw05.SchemaGrows.
-/
import Derived.Test.YtjfholofgohcjaaQSFitsW
namespace Go.Proofs.Ytjfholofgohcjaa
open Go.RowKit Go.Sort Go.Shelf

theorem last_split {l : List Sc} (h : 0 < l.length) : l.take (l.length - 1) ++ [l[l.length - 1]!] = l := by
  have e : l.length - 1 + 1 = l.length := by omega
  rw [getElem!_pos l (l.length - 1) (by omega), ← List.take_succ_eq_append_getElem (by omega), e, List.take_length]
theorem names_split {l : List Sc} (h : 0 < l.length) : l.map Sc.nm = (l.take (l.length - 1)).map Sc.nm ++ [l[l.length - 1]!.nm] := by
  conv => lhs; rw [← last_split h]
  rw [List.map_append]; rfl
theorem at_less {l : List Sc} {nm : ByteArray} (h : 0 < l.length) (hne : ¬ nm = l[l.length - 1]!.nm) : atS (l.take (l.length - 1)) nm = atS l nm := by
  unfold atS
  rw [names_split h]
  by_cases hm : nm ∈ (l.take (l.length - 1)).map Sc.nm
  · rw [from_append nm _ _ 0 hm]
  · rw [from_neg _ _ _ hm, from_neg]
    intro h'
    rcases List.mem_append.1 h' with h' | h'
    · exact hm h'
    · exact hne (List.mem_singleton.1 h')
theorem fits_less {l : List Sc} {p : Pt} (h : 0 < l.length) (hne : ¬ p.sc = l[l.length - 1]!.nm) : fitsS (l.take (l.length - 1)) p = fitsS l p := by
  unfold fitsS
  rw [at_less h hne]
  by_cases hz : atS l p.sc < 0
  · rw [if_pos hz, if_pos hz]
  · rw [if_neg hz, if_neg hz]
    have hlt := atS_lt (l := l.take (l.length - 1)) (nm := p.sc)
    rw [at_less h hne, List.length_take] at hlt
    have hj : (atS l p.sc).toNat < l.length - 1 := by omega
    rw [getElem!_pos l _ (by omega), getElem!_pos (l.take (l.length - 1)) _ (by rw [List.length_take]; omega), List.getElem_take]
theorem fits_last {l : List Sc} {p : Pt} (h : checkS l = 0) (hp : p.sc = l[l.length - 1]!.nm) : fitsS (l.take (l.length - 1)) p = 50 := by
  obtain ⟨h1, _, h3⟩ := check_parts0 h
  refine fits_none ?_
  rw [atS_none]
  · omega
  · rw [names_split (by omega)] at h3
    rw [hp]
    intro hm
    have := (List.nodup_append.1 h3).2.2 _ hm _ (List.mem_singleton.2 rfl)
    exact this rfl
theorem sh_nm {w : World} {hs : List Sh} {l : List Sc} (h : HeadsS w hs l) {j : Nat} (hj : j < hs.length) : hs[j]!.nm = l[j]!.nm :=
  (h.2 j _ _ (get!_some hj) (get!_some (by rw [← h.1]; exact hj))).nm
def ptNone (s : ByteArray) (h : s.size ≤ maxLen) : Pt := ⟨s, [], 0, [], h⟩
theorem ptNone_at {w : World} {s : ByteArray} (h : s.size ≤ maxLen) : PtAt w (.agg #[.string s, .slice none 0 0, .int .i64 0, .slice none 0 0]) (ptNone s h) := ⟨_, _, rfl, SlAt.nil _ _ _ _, SlAt.nil _ _ _ _⟩
set_option maxRecDepth 100000 in
set_option maxHeartbeats 4000000 in
theorem schemaGrows_any {v u : Value} {l : List Sc} {p : Pt} {w : World} (hv : SchsAt w v l) (hp : PtAt w u p) :
    Calls Try.prog 12 #[v, u] w fun e w' => e = .returned (.bool true) ∧ Below w.heap.size w w' := by
  have HV := hid hv
  obtain ⟨hs, ⟨q, cap, rfl, ⟨hcap, hcn⟩, hmax, hx⟩, hh⟩ := hv
  unfold maxLen at hmax
  have HP := hid hp
  obtain ⟨kv, vv, rfl, hk1, hk2⟩ := hp
  obtain ⟨pk, ck, rfl, -⟩ := hk1
  obtain ⟨pv, cv, rfl, -⟩ := hk2
  generalize List.length p.ks = nk at *
  generalize List.length p.vs = nv at *
  have HX := hid hx
  have HH := hid hh
  have HL := hid hh.1
  clear hx hh
  generalize hn : hs.length = n at *
  have HN := hid hn
  clear hn
  have HB := hid ((Below.refl w.heap.size w).alloc (Nat.le_refl _) (.cells #[.string p.sc, .slice pk nk ck, .int .i64 p.tm, .slice pv nv cv] 67))
  have KB := hid (alloc_block w (.cells #[.string p.sc, .slice pk nk ck, .int .i64 p.tm, .slice pv nv cv] 67))
  by_cases h20 : 20 < n
  · have g : (20 : Int) < (n : Int) := by omega
    go_enter Try.func12, Try.ntmps12
    go_wp2_with (go_at_call 30; refine shown5_any.mono ?_; rintro e w1 ⟨rfl, hb1⟩; have HB1 := hid (below_on HB.out hb1); clear hb1)
    go_ret
    exact ⟨rfl, HB1.out⟩
  · have g : ¬ (20 : Int) < (n : Int) := by omega
    by_cases h2 : n < 2
    · have g2 : (n : Int) < 2 := by omega
      go_enter Try.func12, Try.ntmps12
      go_wp2_with (go_at_call 30; refine shown5_any.mono ?_; rintro e w1 ⟨rfl, hb1⟩; have HB1 := hid (below_on HB.out hb1); clear hb1)
      go_ret
      exact ⟨rfl, HB1.out⟩
    · have g2 : ¬ (n : Int) < 2 := by omega
      by_cases hc : checkS l = 0
      · obtain ⟨k, rfl⟩ : ∃ k, n = k + 1 := ⟨n - 1, by omega⟩
        have hnl : l.length = k + 1 := HL.out.symm
        have hk1 : l.length - 1 = k := by omega
        have HC := hid hc
        have HCm : Hid (checkS (l.take k) = 0) := by have := check_drop hc (by omega); rw [hk1] at this; exact this
        have HM := hid (HV.out.take k (by omega))
        have hlen : k < hs.length := by rw [HN.out]; omega
        obtain ⟨b, o, rfl, -, hj⟩ := HX.out (by intro e; rw [e] at hlen; simp at hlen)
        have HJ := hid (hj k _ (get!_some hlen))
        have hnm := sh_nm HH.out hlen
        generalize hs[k]! = hd at HJ hnm
        have HLF : Hid (∀ x : Pt, x.sc = hd.nm → fitsS (l.take k) x = 50) := fun x hx => by
          have := fits_last (p := x) hc (by rw [hk1, ← hnm]; exact hx)
          rw [hk1] at this; exact this
        have HFE : Hid (¬ p.sc = hd.nm → fitsS (l.take k) p = fitsS l p) := fun hx => by
          have := fits_less (p := p) (l := l) (by omega) (by rw [hk1, ← hnm]; exact hx)
          rw [hk1] at this; exact this
        have HSM : Hid (hd.nm.size ≤ maxLen) := by show hd.nm.size ≤ maxLen; rw [hnm]; exact l[k]!.small
        have HJ0 : Hid (∀ x, Below w.heap.size w x → x.cell? ⟨b, o + k * 3, none⟩ = some (.string hd.nm)) := fun x hx => (sh_cells (HJ.out.on hx)).c0
        generalize hd.nm = last at *
        clear hj hnm HJ HX hc hnl hk1
        have hq := bytes_beq p.sc last
        go_enter Try.func12, Try.ntmps12
        go_wp2_with (first
          | (go_at_call 30; refine shown5_any.mono ?_; rintro e w1 ⟨rfl, hb1⟩; have HB1 := hid (below_on HB.out hb1); have KB1 := hid (block_on KB.out hb1); clear hb1)
          | (go_at_call 39; refine (scheck_is (HV.out.on HB1.out) HC.out).mono ?_; rintro e w2 ⟨rfl, hb2⟩; have HB2 := hid (below_on HB1.out hb2); have KB2 := hid (block_on KB1.out hb2); have hc0 := HJ0.out _ HB2.out; clear hb2))
        have kk : ∀ d os i, (grow (redrawn w2 d) os).cell? ⟨w.heap.size, i, none⟩ = (#[.string p.sc, .slice pk nk ck, .int .i64 p.tm, .slice pv nv cv] : Array Value)[i]? := fun d os i => block_cell (block_on KB2.out (below_regrown w2 d os)) i
        have HU1 : ∀ d os, Hid (SchsAt (grow (redrawn w2 d) os) (.slice (some ⟨b, o, none⟩) (k + 1) cap) l) := fun d os => (HV.out.on HB2.out).on (below_regrown w2 d os)
        have HU2 : ∀ d os, Hid (SchsAt (grow (redrawn w2 d) os) (.slice (some ⟨b, o, none⟩) k cap) (l.take k)) := fun d os => (HM.out.on HB2.out).on (below_regrown w2 d os)
        have HU3 : ∀ d os, Hid (PtAt (grow (redrawn w2 d) os) (.agg #[.string p.sc, .slice pk nk ck, .int .i64 p.tm, .slice pv nv cv]) p) := fun d os => (HP.out.on HB2.out).on (below_regrown w2 d os)
        have HL3 := hid (HLF.out (ptNone last HSM.out) rfl)
        clear hc0
        generalize l.take k = m at *
        by_cases he : p.sc = last
        · rw [decide_eq_true he] at hq
          clear he HFE
          refine wp_region_quiet_below (by kernel_rfl) (by kernel_rfl) ?_
          repeat (go_big_quiet_step (first | (go_at_call 39; exact Calls.regrown_of (scheck_is (HU2 _ _).out HCm.out)) | (go_at_call 41; exact Calls.regrown_of (sfits_is (HU2 _ _).out (ptNone_at HSM.out) HL3.out))))
          refine wpQuiet_nil ?_
          intro _ hw'
          obtain ⟨⟨dq, osq⟩, hw''⟩ := hw'
          subst hw''
          go_wp2
          go_ret
          exact ⟨by simp, below_on HB2.out (below_regrown w2 dq osq)⟩
        · rw [decide_eq_false he] at hq
          have HFF := hid (HFE.out he)
          clear he HFE
          generalize hr : fitsS l p = r at *
          have HR := hid hr
          clear hr
          refine wp_region_quiet_below (by kernel_rfl) (by kernel_rfl) ?_
          iterate 15 (go_big_quiet_step (first | (go_at_call 39; exact Calls.regrown_of (scheck_is (HU2 _ _).out HCm.out)) | (go_at_call 41; exact Calls.regrown_of (sfits_is (HU1 _ _).out (HU3 _ _).out HR.out))))
          iterate 3 (go_big_quiet_step (first | (go_at_call 41; exact Calls.regrown_of (sfits_is (HU2 _ _).out (HU3 _ _).out HFF.out))))
          repeat (go_big_quiet_step (first | (go_at_call 41; exact Calls.regrown_of (sfits_is (HU2 _ _).out (ptNone_at HSM.out) HL3.out))))
          refine wpQuiet_nil ?_
          intro _ hw'
          obtain ⟨⟨dq, osq⟩, hw''⟩ := hw'
          subst hw''
          go_wp2
          go_ret
          exact ⟨by simp, below_on HB2.out (below_regrown w2 dq osq)⟩
      · generalize hz : checkS l = z at *
        have HZ := hid hz
        have hne : (z != 0) = true := by simpa using hc
        clear hz hc
        go_enter Try.func12, Try.ntmps12
        go_wp2_with (first
          | (go_at_call 30; refine shown5_any.mono ?_; rintro e w1 ⟨rfl, hb1⟩; have HB1 := hid (below_on HB.out hb1); clear hb1)
          | (go_at_call 39; refine (scheck_is (HV.out.on HB1.out) HZ.out).mono ?_; rintro e w2 ⟨rfl, hb2⟩))
        go_ret
        exact ⟨rfl, below_on HB1.out hb2⟩
end Go.Proofs.Ytjfholofgohcjaa
