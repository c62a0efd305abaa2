/-
  The walk of catchmentlaw04.WireReads.
-/
import Derived.Test.YtjfholofgohcjaaPF
import Derived.Test.YtjfholofgohcjaaPR
import Derived.Test.YtjfholofgohcjaaQRDAny
namespace Go.Proofs.Ytjfholofgohcjaa
open Go.RowKit Go.Sort Go.Shelf

def dcC (xs : List UInt8) : List Cl := match decS xs with | some (cs, _) => cs | none => []
def dcR (xs : List UInt8) : List Rw := match decS xs with | some (_, rs) => rs | none => []
def dcZ (xs : List UInt8) : Int := match decS xs with | some _ => 0 | none => 40
theorem tab_form {w : World} {v : Value} {cs : List Cl} {rs : List Rw} (h : TabAt w v cs rs) : ∃ pc cc pr cr, v = .agg #[.slice pc cs.length cc, .slice pr rs.length cr] := by
  obtain ⟨c, r, rfl, ⟨p, cap, rfl, -⟩, hs, ⟨p', cap', rfl, -⟩, hh⟩ := h
  exact ⟨p, cap, p', cap', by rw [hh.1]⟩
theorem tab_nil (w : World) : TabAt w (.agg #[.slice none 0 0, .slice none 0 0]) [] [] :=
  ⟨_, _, rfl, ⟨none, 0, rfl, ⟨Nat.le_refl _, fun _ => rfl⟩, Nat.zero_le _, fun h => absurd rfl h⟩, [], ⟨none, 0, rfl, ⟨Nat.le_refl _, fun _ => rfl⟩, Nat.zero_le _, fun h => absurd rfl h⟩, rfl, fun j x r h1 _ => by simp at h1⟩
def DecPost (xs : List UInt8) (w : World) (e : Ending) (w' : World) : Prop :=
  ∃ pc cc pr cr, e = .returned (.tuple #[.agg #[.slice pc (dcC xs).length cc, .slice pr (dcR xs).length cr], .int .i64 (dcZ xs)]) ∧ TabAt w' (.agg #[.slice pc (dcC xs).length cc, .slice pr (dcR xs).length cr]) (dcC xs) (dcR xs) ∧ Below w.heap.size w w'
theorem dec_all {v : Value} {xs : List UInt8} {w : World} (hv : BAt w v xs) : Calls Try.prog 28 #[v] w (DecPost xs w) := by
  unfold DecPost
  cases h : decS xs with
  | none =>
    rw [show dcC xs = [] by simp [dcC, h], show dcR xs = [] by simp [dcR, h], show dcZ xs = 40 by simp [dcZ, h]]
    refine (dec_none hv h).mono ?_
    rintro e w' ⟨rfl, hb⟩
    exact ⟨none, 0, none, 0, rfl, tab_nil _, hb⟩
  | some z =>
    obtain ⟨cs, rs⟩ := z
    rw [show dcC xs = cs by simp [dcC, h], show dcR xs = rs by simp [dcR, h], show dcZ xs = 0 by simp [dcZ, h]]
    refine (dec_some hv h).mono ?_
    rintro e w' ⟨v', rfl, ht, hb⟩
    obtain ⟨pc, cc, pr, cr, rfl⟩ := tab_form ht
    exact ⟨pc, cc, pr, cr, rfl, ht, hb⟩
theorem rdec_all {v : Value} {xs : List UInt8} {w : World} (hv : BAt w v xs) (hl : xs.length ≤ 140737488351232) : Calls Try.prog 29 #[v] w (DecPost xs w) := by
  refine (rdec_any hv hl).mono ?_
  rintro e w' (⟨cs, rs, v', h, rfl, ht, hb⟩ | ⟨h, rfl, hb⟩)
  · unfold DecPost
    rw [show dcC xs = cs by simp [dcC, h], show dcR xs = rs by simp [dcR, h], show dcZ xs = 0 by simp [dcZ, h]]
    obtain ⟨pc, cc, pr, cr, rfl⟩ := tab_form ht
    exact ⟨pc, cc, pr, cr, rfl, ht, hb⟩
  · unfold DecPost
    rw [show dcC xs = [] by simp [dcC, h], show dcR xs = [] by simp [dcR, h], show dcZ xs = 40 by simp [dcZ, h]]
    exact ⟨none, 0, none, 0, rfl, tab_nil _, hb⟩
theorem rsame_self {u v : Value} {cs : List Cl} {rs : List Rw} {w : World} (hu : TabAt w u cs rs) (hv : TabAt w v cs rs) :
    Calls Try.prog 17 #[u, v] w fun e w' => e = .returned (.bool true) ∧ Below w.heap.size w w' := by
  have h := rsame_any hu hv
  rw [show decide (cs = cs ∧ rs = rs) = true by simp] at h
  exact h
theorem alB2 (w : World) (o : Obj) : Below w.heap.size w (w.alloc o) := (Below.refl _ w).alloc (Nat.le_refl _) o
set_option maxRecDepth 100000 in
set_option maxHeartbeats 2000000 in
theorem wreads_any {v : Value} {xs : List UInt8} {w : World} (hX : BAt w v xs) (hl : xs.length ≤ 140737488351232) : Calls Try.prog 7 #[v] w fun e w' => e = .returned (.bool true) ∧ Below w.heap.size w w' := by
  have HX := hid hX
  obtain ⟨p, c, rfl, -⟩ := hX
  obtain ⟨n, hn⟩ : ∃ n, xs.length = n := ⟨_, rfl⟩
  have HN : LenIs xs n := ⟨hn, hl⟩
  rw [hn] at HX ⊢
  clear hn hl
  have HD := hid (fun (v : Value) (w : World) (hv : BAt w v xs) => dec_all hv)
  have HR := hid (fun (v : Value) (w : World) (hv : BAt w v xs) => rdec_all hv HN.2)
  unfold DecPost at HD HR
  obtain ⟨cs, hcs⟩ : ∃ z, dcC xs = z := ⟨_, rfl⟩
  obtain ⟨rs, hrs⟩ : ∃ z, dcR xs = z := ⟨_, rfl⟩
  obtain ⟨z, hz⟩ : ∃ z, dcZ xs = z := ⟨_, rfl⟩
  rw [hcs, hrs, hz] at HD HR
  clear hcs hrs hz
  go_enter Try.func7, Try.ntmps7
  go_wp2_with (first
    | (go_at_call 20; refine wshown_any.mono ?_; rintro e w1 ⟨rfl, hb1⟩; have HB1 := hid hb1; clear hb1)
    | (refine appB_any rfl _ _ rfl (by simp [Act.eval]; try rfl) (OwnB.made w1.heap.size w1 (Nat.le_refl _)) (by simp [Act.eval]; try rfl) (HX.out.on (below_on HB1.out ((Below.refl _ _).alloc (Nat.le_refl _) _))) (by have := HN.2; simp; omega) ((Below.refl w1.heap.size w1).alloc (Nat.le_refl _) (.cells #[] 5)).size ?_; intro v2 w2 hown2 hb2; rw [List.nil_append] at hown2; obtain ⟨p2, c2, rfl⟩ := HN.form hown2; have HO2 := hid hown2.bat; have S2 := hid (((Below.refl w1.heap.size w1).alloc (Nat.le_refl _) (.cells #[] 5)).trans hb2); have HB2 := hid (below_on HB1.out S2.out); clear hown2 hb2)
    | (go_at_call 28; refine (HD.out _ _ HO2.out).mono ?_; rintro e w3 ⟨pc, cc, pr, cr, rfl, ht3, hb3⟩; have AB3 := alB2 w3 (.cells #[.slice pc cs.length cc, .slice pr rs.length cr] 25); have HT3 := hid (ht3.on AB3); have HO3 := hid ((HO2.out.on hb3).on AB3); have HB3 := hid (below_on (below_on HB2.out hb3) AB3); have KB3 := hid (alloc_block w3 (.cells #[.slice pc cs.length cc, .slice pr rs.length cr] 25)); clear ht3 hb3 AB3)
    | (go_at_call 29; refine (HR.out _ _ (HX.out.on HB3.out)).mono ?_; rintro e w4 ⟨pd, cd, pq, cq, rfl, ht4, hb4⟩; have AB4 := alB2 w4 (.cells #[.slice pd cs.length cd, .slice pq rs.length cq] 25); have HU4 := hid (ht4.on AB4); have HT4 := hid ((HT3.out.on hb4).on AB4); have HO4 := hid ((HO3.out.on hb4).on AB4); have HB4 := hid (below_on (below_on HB3.out hb4) AB4); have kb4 := block_cell (block_on (block_on KB3.out hb4) AB4); clear ht4 hb4 AB4)
    | (go_at_call 17; refine (rsame_self HT4.out HU4.out).mono ?_; rintro e w5 ⟨rfl, hb5⟩; have HB5 := hid (below_on HB4.out hb5); have d1 := conv_bat (HO4.out.on hb5); have d2 := conv_bat (HX.out.on HB5.out); generalize (⟨xs.toArray⟩ : ByteArray) = sx at *; clear hb5 kb4))
  go_ret
  exact ⟨by simp, HB5.out⟩
end Go.Proofs.Ytjfholofgohcjaa
