/-
  What stage 16's pairs (a table of columns time and n) and cut return.
-/
import Derived.Test.YtcidijjbcebcbaaGreatKF12
import Derived.Test.YtcidijjbcebcbaaGreatKF27
namespace Go.Proofs.YtcidijjbcebcbaaGreat.TN
open Go.RowKit Go.Sort Go.Shelf

def cT : Cl := ⟨⟨#[116, 105, 109, 101]⟩, 1, by decide⟩
/- Numbers by twos. -/
def rowP (ns : List Int) (i : Nat) : Rw := [vInt ns[2 * i]!, vInt ns[2 * i + 1]!]
def rowsP (ns : List Int) : List Rw := (List.range (ns.length / 2)).map (rowP ns)
set_option maxHeartbeats 4000000 in
set_option maxRecDepth 100000 in
theorem pairs_any {ns : List Int} {u : Value} {w : World} {n2 : Nat} (hu : SlAt any encI 1 w u ns) (hn3 : ns.length = 2 * n2) (hn4 : n2 ≤ 1000) :
    Calls Tryz.prog 10 #[u] w fun e w' => ∃ v', e = .returned v' ∧ TabIn (fun b => w.heap.size ≤ b) w' v' [cT, cN] (rowsP ns) ∧ Below w.heap.size w w' := by
  obtain ⟨p, cap, rfl, hcap, hmax, hx⟩ := hu
  have HX := hid hx
  clear hx hmax
  have HN := hid hn3
  have HR : Hid (rowsP ns = (List.range n2).map (rowP ns)) := by show _ = _; unfold rowsP; rw [hn3, show 2 * n2 / 2 = n2 by omega]
  rw [hn3] at hcap
  rw [hn3]
  clear hn3
  obtain ⟨N, hN⟩ : ∃ N, N = 2 * n2 := ⟨_, rfl⟩
  have HNN := hid hN
  rw [← hN]
  rw [← hN] at hcap
  clear hN
  have NI : (N : Int) ≤ 2000 := by have := HNN.out; omega
  go_enter Tryz.func10, Tryz.ntmps10
  go_wp2
  generalize hO0 : (Obj.cells #[.slice none 0 0, .slice none 0 0] 25 (0, 0)) = O0 at *
  generalize hO1 : (Obj.cells #[.string ⟨#[116, 105, 109, 101]⟩, .int .i64 1, .string ⟨#[110]⟩, .int .i64 1] 48 (0, 0)) = O1 at *
  generalize hO2 : (Obj.cells #[.slice (some ⟨w.heap.size + 1, 0, none⟩) 2 2, .slice none 0 0] 25 (0, 0)) = O2 at *
  have al := fun (W : World) (o : Obj) => (Below.refl W.heap.size W).alloc (Nat.le_refl _) o
  have K0 := hid (block_on (block_on (alloc_block w O0) (al _ O1)) (al _ O2))
  have K1 := hid (block_on (alloc_block (w.alloc O0) O1) (al _ O2))
  have K2 := hid (alloc_block ((w.alloc O0).alloc O1) O2)
  have HB0 := hid (below_on (below_on (al w O0) (al _ O1)) (al _ O2))
  clear al
  simp only [World.size_alloc] at K1 K2
  have hsz0 : w.heap.size + 1 + 1 + 1 ≤ (((w.alloc O0).alloc O1).alloc O2).heap.size := by simp
  generalize (((w.alloc O0).alloc O1).alloc O2) = W at *
  subst hO0 hO1 hO2
  go_loopw [4] (fun i wr => ∃ (k i0 : Nat) (rv : Value) (hs : List Value), k ≤ n2 ∧ i = .int .i64 i0 ∧ Hid (i0 = 2 * k) ∧ hs.length = k ∧ w.heap.size + 1 + 1 + 1 ≤ wr.heap.size ∧ Hid (wr.heap[w.heap.size + 1 + 1]? = some (.cells #[.slice (some ⟨w.heap.size + 1, 0, none⟩) 2 2, rv] 25 (0, 0))) ∧ Hid (wr.heap[w.heap.size + 1]? = some (.cells #[.string ⟨#[116, 105, 109, 101]⟩, .int .i64 1, .string ⟨#[110]⟩, .int .i64 1] 48 (0, 0))) ∧ Hid (wr.heap[w.heap.size]? = some (.cells #[.slice none 0 0, .slice none 0 0] 25 (0, 0))) ∧ Hid (Own one 1 45 (w.heap.size + 1 + 1 + 1) wr rv hs) ∧ Hid (HeadsIn (ty48 w.heap.size wr) wr hs ((List.range k).map (rowP ns))) ∧ Hid (Below w.heap.size w wr)) (fun i _ => N - (intOf i).toNat)
  case atStart => exact ⟨0, 0, _, [], by omega, rfl, rfl, rfl, hsz0, K2.out, K1.out, K0.out, Own.nil _ _ _ _ _, ⟨rfl, fun j h r h1 _ => by simp at h1⟩, HB0.out⟩
  case round =>
    obtain ⟨k, i0, rv, hs', hk, rfl, HI, hlen, hsz, HK2, HK1, HK0, HO, HH, HB⟩ := hrel
    have k2 := block_cell HK2.out
    have f2 := frozen_no HK2.out
    obtain ⟨i1, hi1⟩ : ∃ i, i = i0 + 1 := ⟨_, rfl⟩
    have i1I : (i0 : Int) + 1 = i1 := by omega
    have HI1 := hid hi1
    by_cases hlt : k < n2
    · have hkn : i1 < ns.length := by have := HI.out; have := HNN.out; rw [HN.out]; omega
      have i1N : (i1 : Int) < N := by have := HNN.out; rw [HN.out] at hkn; omega
      have i0N : (i0 : Int) < N := by omega
      have i0p : (0 : Int) ≤ i0 := by omega
      have i1p : (0 : Int) ≤ i1 := by omega
      obtain ⟨b, o, rfl, -, hj⟩ := HX.out (by intro e; subst e; simp at hkn)
      have hd : wr.cell? ⟨b, o + i0, none⟩ = some (.int .i64 ns[i0]!) := by
        have := ((hj i0 _ (get!_some (by omega))).on HB.out) 0 _ rfl
        simpa using this
      have he : wr.cell? ⟨b, o + i1, none⟩ = some (.int .i64 ns[i1]!) := by
        have := ((hj i1 _ (get!_some hkn)).on HB.out) 0 _ rfl
        simpa using this
      clear hj
      have hlb := block_lt_of_cell hd
      have HXX : Hid (rowP ns k = [vInt ns[i0]!, vInt ns[i1]!]) := by show _ = _; unfold rowP; rw [← HI.out, ← HI1.out]
      generalize ns[i0]! = x at *
      generalize ns[i1]! = y at *
      have l2 := lt_of_block HK2.out
      have hwr : IntKind.i64.wrap (i1 : Int) = (i1 : Int) := by rw [IntKind.wrap_i64]; omega
      clear hi1 hkn
      have ka1 : ∀ (A : Obj) (j : Nat), (wr.alloc A).cell? ⟨w.heap.size + 1 + 1, j, none⟩ = (#[.slice (some ⟨w.heap.size + 1, 0, none⟩) 2 2, rv] : Array Value)[j]? := fun A j => block_cell (block_on HK2.out ((Below.refl _ wr).alloc (Nat.le_refl _) A)) j
      have ka2 : ∀ (A B : Obj) (j : Nat), ((wr.alloc A).alloc B).cell? ⟨w.heap.size + 1 + 1, j, none⟩ = (#[.slice (some ⟨w.heap.size + 1, 0, none⟩) 2 2, rv] : Array Value)[j]? := fun A B j => block_cell (block_on HK2.out (below_aa wr A B)) j
      go_wp2_with fail
      go_region_law (refine step_head rfl (.tmp 17) (.tmp 30) rfl (by simp [Act.eval]) (by simp [Act.eval]; rfl) (HO.out.on (by first | exact below_aad _ _ _ | exact below_aa _ _ _ | exact below_daa _ _ _)) (by first | exact alloc_block _ _ | exact alloc_blk2' _ _ _) rfl (by omega) (by simp; omega) ?_; intro v' w1 hown hb1 hg1; have HO1 := hid hown; have HB1 := hid hb1; have HG1 := hid hg1; obtain ⟨g', cap', rfl⟩ := Joins.ownsRow_form hown (by simp); have K21 : Hid (w1.heap[w.heap.size + 1 + 1]? = _) := (hb1.block (w.heap.size + 1 + 1) (by omega)).trans (block_on HK2.out (by first | exact below_aad _ _ _ | exact below_aa _ _ _ | exact below_daa _ _ _)); have k21 := block_cell K21.out; have f21 := frozen_no K21.out; clear hown hb1 hg1)
      all_goals
        go_wp2
        go_roundw
        case rel =>
          have e1 : (hs' ++ [Value.slice (some ⟨wr.heap.size, 0, none⟩) 2 2]).length = k + 1 := by simp [hlen]
          rw [e1] at HO1
          obtain ⟨q0, q1, q2, q3, q4⟩ := row_more (T := w.heap.size + 1 + 1) (B := w.heap.size) (r := rowP ns k) (by omega) HB.out.size hsz HK2.out HO.out HH.out (by first | exact below_aad _ _ _ | exact below_aa _ _ _ | exact below_daa _ _ _) (by first | exact alloc_blk1' _ _ _) (by rw [HXX.out]; rfl) rfl HO1.out HB1.out HG1.out
          exact ⟨k + 1, i0 + 2, _, _, by omega, by go_num, by have := HI.out; show i0 + 2 = 2 * (k + 1); omega, e1, q0, q1, (q2 _ (by omega)).trans HK1.out, (q2 _ (by omega)).trans HK0.out, q3, by rw [List.range_succ, List.map_append]; exact q4, below_set (HB.out.trans (Below.trans ((by first | exact below_aad _ _ _ | exact below_aa _ _ _ | exact below_daa _ _ _ : Below wr.heap.size wr _).mono HB.out.size) (HB1.out.mono (by omega)))) (by omega)⟩
        case measure => simp [intOf]; omega
    · have hk3 : k = n2 := by omega
      subst hk3
      have i1N : ¬ (i1 : Int) < N := by have := HI.out; have := HNN.out; omega
      have i1b : (i1 : Int) ≤ 2001 := by have := HI.out; omega
      have i0b : (i0 : Int) ≤ 2000 := by omega
      clear hi1
      have z2 := block_cell HK0.out
      have zf := frozen_no HK0.out
      obtain ⟨pr, capr, rfl, -, -, -⟩ := Own.sl HO.out one_len (small1 (by omega))
      rw [hlen] at k2 HK2 HO
      go_wp2
      have HT : TabIn (fun b => w.heap.size + 1 ≤ b) wr (.agg #[.slice (some ⟨w.heap.size + 1, 0, none⟩) 2 2, .slice pr k capr]) [cT, cN] ((List.range k).map (rowP ns)) := by
        refine ⟨_, _, rfl, SlAt.imp (lit_sl HK1.out cl_len rfl rfl (Nat.le_refl _) (by decide)) (fun b hb => by subst hb; exact Nat.le_refl _), hs', (Own.sl HO.out one_len (small1 (by omega))).imp (fun b hb => by omega), HH.out.imp (fun b hb => ?_)⟩
        obtain ⟨hB, c, fz, hc⟩ := hb
        rcases Nat.eq_or_lt_of_le hB with e | e
        · subst e
          rw [HK0.out] at hc
          cases hc
        · exact e
      refine bodyPost_ret (v := .agg #[.slice (some ⟨w.heap.size + 1, 0, none⟩) 2 2, .slice pr k capr]) ?_ rfl ⟨_, rfl, ?_, ?_⟩
      · have KF := Joins.block_setCell (i := 1) (Joins.block_setCell (i := 0) HK0.out (.slice (some ⟨w.heap.size + 1, 0, none⟩) 2 2)) (.slice pr k capr)
        generalize ((wr.setCell ⟨w.heap.size, 0, none⟩ (.slice (some ⟨w.heap.size + 1, 0, none⟩) 2 2)).setCell ⟨w.heap.size, 1, none⟩ (.slice pr k capr)) = WF at KF ⊢
        have kcf := block_cell KF
        clear KF z2 zf
        simp [results, Tryz.results10, go_sem, kcf]
      · rw [HR.out]
        exact (TabIn.set (fun b hb => by omega) (TabIn.set (fun b hb => by omega) HT)).imp (fun b hb => by omega)
      · exact below_set (below_set HB.out (Nat.le_refl _)) (Nat.le_refl _)
set_option maxHeartbeats 1000000 in
theorem cut6_q {Q : Nat → Prop} {c r : Value} {hs : List Value} {cs : List Cl} {rs : List Rw} {w : World} (hc : SlAt Q Cl.cells 2 w c cs) (hr : SlAt Q one 1 w r hs) (hh : HeadsIn Q w hs rs) :
    Calls Tryz.prog 5 #[.agg #[c, r]] w fun e w' => ∃ r', e = .returned (.agg #[c, r']) ∧ SlAt Q one 1 w' r' (hs.take 100) ∧ HeadsIn Q w' (hs.take 100) (rs.take 100) ∧ Below w.heap.size w w' := by
  have HR := hid hr
  obtain ⟨p, cap, rfl, ⟨hcap, -⟩, -, -⟩ := hr
  obtain ⟨q, cap', rfl, -, -, -⟩ := id hc
  have HH := hid hh
  clear hc hh
  generalize hn : hs.length = n at *
  have HN := hid hn
  clear hn
  by_cases h : 100 < n
  · have g : (100 : Int) < (n : Int) := by omega
    go_enter Tryz.func5, Tryz.ntmps5
    go_wp2
    have HB := hid (((Below.refl w.heap.size w).alloc (Nat.le_refl _) (.cells #[.slice q cs.length cap', .slice p 100 cap] 25)).alloc (by simp) (.cells #[.slice q cs.length cap', .slice p 100 cap] 25))
    refine bodyPost_ret (v := .agg #[.slice q cs.length cap', .slice p 100 cap]) (by simp [results, Tryz.results5, go_sem]) rfl ⟨_, rfl, (HR.out.take 100 (by omega)).on HB.out, (HH.out.take 100).on HB.out, HB.out⟩
  · have g : ¬ (100 : Int) < (n : Int) := by omega
    go_enter Tryz.func5, Tryz.ntmps5
    go_wp2
    have HB := hid (((Below.refl w.heap.size w).alloc (Nat.le_refl _) (.cells #[.slice q cs.length cap', .slice p n cap] 25)).alloc (by simp) (.cells #[.slice q cs.length cap', .slice p n cap] 25))
    rw [List.take_of_length_le (l := hs) (by rw [HN.out]; omega), List.take_of_length_le (l := rs) (by rw [← HH.out.1, HN.out]; omega)]
    refine bodyPost_ret (v := .agg #[.slice q cs.length cap', .slice p n cap]) (by simp [results, Tryz.results5, go_sem]) rfl ⟨_, rfl, HR.out.on HB.out, HH.out.on HB.out, HB.out⟩
end Go.Proofs.YtcidijjbcebcbaaGreat.TN
