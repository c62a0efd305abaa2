/-
  What Get, Len and Span of package runs return.
  What Clone of package runs returns.
  How schemas and points lie in memory.
  How a leaf lies in memory: its schemas, its dictionary, its map of runs, its runs; and what stays.
  The contracts of Go's library that package schema calls, laid at this program's numbers.
  What schema.isTaken and strings.Contains return, for every text.
-/
import Derived.Test.YtlbjbkhcnafhcaaGreatQRnAdd2
import Derived.Test.YtlbjbkhcnafhcaaGreatP06Shelf
import Derived.Test.YtlbjbkhcnafhcaaGreatP09Txt
import Derived.Test.YtlbjbkhcnafhcaaGreatP12XOf
import Derived.Test.YtlbjbkhcnafhcaaGreatProg
import Derived.Maps.OwnSet
import Derived.Maps.OwnOps
import Derived.Maps.Keyed
import Derived.Shelf.Strings.Search3
import Derived.Shelf.SlicesQ.IndexFunc
import Derived.Shelf.Spec.SlicesGrow
namespace Go.Proofs.YtlbjbkhcnafhcaaGreat.RN
open Go.RowKit Go.Sort Go.Shelf

theorem find_is {B : Nat} {P : Nat → Prop} {w : World} {b pp : Nat} {sv pv : Value} {l : List Sp} {at' : Int} {qq : Bool} (h : Rk B P w b sv pv l) (hlen : l.length ≤ 1000) (hp : posT at' l = pp) (hq : hasT l at' = qq) :
    Calls Tryz.prog 55 #[dp b, .int .i64 at'] w fun e w' => e = .returned (.tuple #[.int .i64 0, .int .i64 (pp : Nat), .bool qq]) ∧ Below w.heap.size w w' := by rw [← hp, ← hq]; exact find_any h hlen
set_option maxRecDepth 100000 in
set_option maxHeartbeats 2000000 in
theorem get_any {B : Nat} {P Q : Nat → Prop} {w : World} {b : Nat} {sv pv : Value} {l : List Sp} {at' : Int} (h : Rk B P w b sv pv l) (hlen : l.length ≤ 1000) (hQ : ∀ k, w.heap.size ≤ k → Q k) :
    Calls Tryz.prog 52 #[dp b, .int .i64 at'] w fun e w' => ∃ p c, e = .returned (.tuple #[.slice p (List.length (getT l at')) c, .bool (hasT l at')]) ∧ RowIn (ty36 Q w') w' (.slice p (List.length (getT l at')) c) (getT l at') ∧ Below w.heap.size w w' := by
  have HK := hid h
  have HLen := hid hlen
  have HQ := hid hQ
  clear hQ
  cases hc : hasT l at' with
  | false =>
    have HC := hid hc
    have hg := getT_no hc
    rw [hg]
    clear h hlen hc hg
    go_enter Tryz.func52, Tryz.ntmps52
    go_wp2_with (go_at_call 55; refine (find_any HK.out HLen.out).mono ?_; rintro e w1 ⟨rfl, hb1⟩; rw [HC.out]; have HB1 := hid hb1; clear hb1)
    go_ret2
    exact ⟨none, 0, rfl, SlAt.nil _ _ _ _, HB1.out⟩
  | true =>
    have HC := hid hc
    obtain ⟨s, hs, hst, hg⟩ := hasT_pos h.up hc
    rw [hg]
    have hne : l ≠ [] := by intro e; subst e; cases hc
    obtain ⟨g, c, g2, c2, rfl, rfl, hv⟩ := rk_view h hlen hne
    have hc1 := hv.hc
    have hc2 := hv.hc2
    have hpl := (List.getElem?_eq_some_iff.1 hs).1
    have HV := hid hv
    have HS := hid hs
    clear h hlen hc hg hst hne hv hs
    generalize hpp : posT at' l = pp at *
    have HPP := hid hpp
    clear hpp
    have HR : Hid (∀ w1, Below w.heap.size w w1 → w1.cell? ⟨b, 0, none⟩ = some (.slice (some ⟨g, 0, none⟩) 1 c) ∧ w1.cell? ⟨g, 0, none⟩ = some (.slice (some ⟨g2, 0, none⟩) l.length c2) ∧ ∃ kp kc, w1.cell? ⟨g2, pp * 2 + 1, none⟩ = some (.slice kp (List.length s.vs) kc) ∧ RowAt w1 (.slice kp (List.length s.vs) kc) s.vs) := fun w1 hb => by
      have hv := HV.out.on hb
      obtain ⟨kp, kc, -, c1, hr⟩ := hv.sm pp s HS.out
      exact ⟨hv.k0, hv.k1, kp, kc, c1, hr.at⟩
    generalize hn : l.length = n at *
    have HN := hid hn
    clear hn
    go_enter Tryz.func52, Tryz.ntmps52
    go_wp2_with (first
      | (go_at_call 55; refine (find_is HK.out (by rw [HN.out]; exact HLen.out) HPP.out HC.out).mono ?_; rintro e w1 ⟨rfl, hb1⟩; have HB1 := hid hb1; obtain ⟨k0, k1, kp, kc, k2, hr⟩ := HR.out w1 hb1; have HR1 := hid hr; clear hb1 hr)
      | (go_at_call 54; refine (cloneK_any (P := Q) HR1.out (fun k hk => HQ.out k (Nat.le_trans HB1.out.size hk))).mono ?_; rintro e w2 ⟨p3, c3, rfl, hr2, hb2⟩; have HR2 := hid hr2; have HB2 := hid (HB1.out.trans (hb2.mono HB1.out.size)); clear hb2 hr2))
    go_ret2
    exact ⟨p3, c3, rfl, HR2.out, HB2.out⟩
def spF (l : List Sp) : Int := (l.head?.map (·.t)).getD 0
def spL (l : List Sp) : Int := (l.getLast?.map (·.t)).getD 0
def spS (l : List Sp) : Bool := !l.isEmpty
end Go.Proofs.YtlbjbkhcnafhcaaGreat.RN
namespace Go.Proofs.YtlbjbkhcnafhcaaGreat.RN
open Go.RowKit Go.Sort Go.Shelf

set_option maxRecDepth 100000 in
set_option maxHeartbeats 400000 in
theorem cloneS_any {B n : Nat} {pv : Value} {hs : List Sh} {w : World} (ho : Own Sh.cells 2 105 B w pv hs) (hk : ∀ h ∈ hs, h.kv.oneCell' = true) (hl : hs.length ≤ 1000) (hn : hs.length = n) :
    Calls Tryz.prog 49 #[pv] w fun e w' => ∃ p c, e = .returned (.slice p n c) ∧ Own Sh.cells 2 105 w.heap.size w' (.slice p n c) hs ∧ Below w.heap.size w w' := by
  have q22 : ∀ (w : World) (a : Option Addr) (n c n' c' : Nat), (binOp .eql 102 (.slice a n c) (.slice none n' c')).run Tryz.prog w = .ok (.bool a.isNone) w := fun w a n c n' c' => Lib.run_eql_slice_nil w _ _ a n c n' c' Tryz.underlying102
  have HK := hid hk
  have HL := hid hl
  have HS := hid (Own.sl ho sh_len (bs2 hl))
  obtain ⟨p, cap, rfl⟩ := own_formN ho hn
  have HN := hid hn
  clear ho hk hl hn
  cases p with
  | none =>
    have hn := SlAt.empty HS.out
    subst hn
    obtain rfl : n = 0 := HN.out.symm
    go_enter Tryz.func49, Tryz.ntmps49
    go_wp2
    go_ret
    exact ⟨none, 0, rfl, Own.nil _ _ _ _ _, Below.refl _ _⟩
  | some ad =>
    go_enter Tryz.func49, Tryz.ntmps49
    go_wp2_with (at_builtin; refine app_N (N := 32) elem32 sh_len (fun x hx => sh_cells (HK.out x hx)) rfl _ _ rfl rfl (Own.made Sh.cells 2 105 w.heap.size w (Nat.le_refl _)) rfl (SlAt.on HS.out ((Below.refl _ _).alloc (Nat.le_refl _) _)) (by have := HL.out; simp only [List.length_nil]; omega) (by decide) (by simp) ?_; intro v' w1 hown hg1)
    go_ret
    rw [List.nil_append] at hown
    obtain ⟨p, c, rfl⟩ := own_formN hown HN.out
    refine ⟨p, c, rfl, hown, ?_⟩
    exact ((Below.refl _ _).alloc (Nat.le_refl _) _).trans ((Below.refl _ _).grown hg1 (by simp) (fun k e => by cases e; exact Nat.le_refl _))
theorem enters20 : ∀ args w, (callFunc 49 args).run Tryz.prog w = .ok (.enter 49 args) w := enters_of Tryz.func49 (by kernel_rfl) rfl
theorem one1 {w : World} {v : Value} {t : TypeId} : SlAt any one 1 (w.alloc (.cells #[v] t)) (.slice (some ⟨w.heap.size, 0, none⟩) 1 1) [v] := by
  refine ⟨_, 1, rfl, ⟨Nat.le_refl _, fun e => by cases e⟩, by simp [maxLen], fun _ => ⟨_, 0, rfl, ⟨trivial, by simp [bsz]⟩, fun j x hj i u hu => ?_⟩⟩
  have hj0 : j = 0 := by have := (List.getElem?_eq_some_iff.1 hj).1; simp at this; omega
  subst hj0
  simp at hj
  subst hj
  have hi : i = 0 := by have := (List.getElem?_eq_some_iff.1 hu).1; simp [one] at this; omega
  subst hi
  rw [block_cell (alloc_block w _)]
  simpa [one] using hu
theorem own_one {B : Nat} {w : World} {v x : Value} (h : Own one 1 102 B w v [x]) : ∃ g c arr, v = .slice (some ⟨g, 0, none⟩) 1 c ∧ 1 ≤ c ∧ B ≤ g ∧ w.heap[g]? = some (.cells arr 102) ∧ arr[0]? = some x := by
  rcases h.2 with ⟨-, h0⟩ | ⟨g, cap, cur, hv, hg, hblk, hc, hm, hs, ht⟩
  · cases h0
  · refine ⟨g, cap, cur, hv, hc, hg, hblk, ?_⟩
    have : (cur.toList.take (1 * 1))[0]? = some x := by
      have e : [x].length = 1 := rfl
      rw [e] at ht
      rw [ht]; rfl
    rw [List.getElem?_take_of_lt (by decide)] at this
    simpa using this
theorem cloned {B : Nat} {P : Nat → Prop} {w w1 w2 w3 : World} {b1 : Nat} {pv v3 : Value} {l : List Sp} {hs : List Sh} {o : Obj} (hne : l ≠ []) (hu : Up l) (hR : Rk B P w1 b1 (.slice none 0 0) (.slice none 0 0) []) (hB : B ≤ w.heap.size) (hb1 : Below w.heap.size w w1) (hh : HeadsS P w hs l) (hb2 : Below w1.heap.size w1 w2) (ho : Own Sh.cells 2 105 w1.heap.size w2 pv hs)
    (ho3 : Own one 1 102 B w3 v3 [pv]) (hg3 : (w2.alloc o).grownBy w3 (Value.slice none 0 0).ownBlock) :
    Rk B P (w3.setCell ⟨b1, 0, none⟩ v3) b1 v3 pv l ∧ Below B w (w3.setCell ⟨b1, 0, none⟩ v3) ∧ w3.cell? ⟨b1, 0, none⟩ = some (.slice none 0 0) ∧ w3.frozen? ⟨b1, 0, none⟩ = false := by
  have hb3 : Below w2.heap.size w2 w3 := ((Below.refl _ _).alloc (Nat.le_refl _) o).trans ((Below.refl _ _).grown hg3 (by simp) (fun k e => by cases e))
  have hb13 := hb2.trans (hb3.mono hb2.size)
  have hb := hb1.trans (hb13.mono hb1.size)
  have hblk := block_on hR.blk hb13
  obtain ⟨g, c, arr, rfl, h1, h2, h3, h4⟩ := own_one ho3
  have hkb : Kp (fun k => k = b1) w3 (w3.setCell ⟨b1, 0, none⟩ (.slice (some ⟨g, 0, none⟩) 1 c)) := Kp.set (T := fun k => k = b1) rfl _
  have hbl := lt_of_block hR.blk
  refine ⟨⟨hR.bB, set_block hblk _, hu, .inr ⟨hne, g, c, arr, rfl, h1, h2, hkb.blk h3 (fun e => ?_), h4⟩, ⟨hs, own_kp (own_le (own_kp (T := fun _ => False) ho (Kp.of hb3) (fun _ _ => id)) (Nat.le_trans hB hb1.size)) hkb (fun k e1 e2 => ?_), (hh.on hb).kp hkb (fun k hk e => ?_)⟩⟩, ?_, ?_, ?_⟩
  · subst e; rw [hblk] at h3; cases h3
  · have := (own_at ho e1).1; omega
  · obtain ⟨-, x, z, hx⟩ := hk
    subst e; rw [hblk] at hx; cases hx
  · exact (hb.mono hB).trans (hkb.below (Nat.le_trans hB hb.size) (fun k e => by rw [e]; exact hR.bB))
  · rw [block_cell hblk]; rfl
  · exact block_frozen hblk 0
set_option maxRecDepth 100000 in
set_option maxHeartbeats 4000000 in
theorem clone_any {B : Nat} {P : Nat → Prop} {w : World} {b : Nat} {sv pv : Value} {l : List Sp} (h : Rk B P w b sv pv l) (hlen : l.length ≤ 1000) :
    Calls Tryz.prog 25 #[dp b] w fun e w' => ∃ b' sv' pv', e = .returned (dp b') ∧ Rk w.heap.size P w' b' sv' pv' l ∧ Below w.heap.size w w' := by
  by_cases hne : l = []
  · subst hne
    have HK := hid h
    clear h
    go_enter Tryz.func25, Tryz.ntmps25
    go_wp2_with (go_at_call 29; refine (new_any (P := P)).mono ?_; rintro e w1 ⟨b1, rfl, hr1, hb1⟩; have HR1 := hid hr1; have HB1 := hid hb1; have k0 := (rk_none (HK.out.on hb1)).2.2; clear hr1 hb1)
    clear k0
    go_loopw [12] (fun iv wr => iv = .int .i64 0 ∧ Hid (Below w1.heap.size w1 wr)) (fun _ _ => 0)
    case atStart => exact ⟨rfl, Below.refl _ _⟩
    case round =>
      obtain ⟨rfl, HB⟩ := hrel
      go_wp2
      go_ret
      exact ⟨b1, _, _, rfl, HR1.out.on HB.out, HB1.out.trans (HB.out.mono HB1.out.size)⟩
  · obtain ⟨g, c, g2, c2, rfl, rfl, hv⟩ := rk_view h hlen hne
    obtain ⟨hs, ho, hh⟩ := h.row
    have HV := hid hv
    have HO := hid ho
    have HH := hid hh
    have HU := hid h.up
    have HLen := hid hlen
    have HNe := hid hne
    have hc1 := hv.hc
    clear h hv ho hh hne hlen
    generalize hn : l.length = n at *
    have HN := hid hn
    clear hn
    go_enter Tryz.func25, Tryz.ntmps25
    go_wp2_with (go_at_call 29; refine (new_any (P := P)).mono ?_; rintro e w1 ⟨b1, rfl, hr1, hb1⟩; have HR1 := hid hr1; have HB1 := hid hb1; have k0 := (HV.out.on hb1).k0; clear hr1 hb1)
    clear k0
    go_loopw [12] (fun iv wr => (iv = .int .i64 0 ∧ wr = w1) ∨ (iv = .int .i64 1 ∧ (∃ sv' pv', Hid (Rk w.heap.size P wr b1 sv' pv' l)) ∧ Hid (Below w.heap.size w wr))) (fun iv _ => 1 - (intOf iv).toNat)
    case atStart => exact .inl ⟨rfl, rfl⟩
    case round =>
      rcases hrel with ⟨rfl, hw⟩ | ⟨rfl, ⟨sv', pv', HR⟩, HB⟩
      · subst hw
        have k1 := (HV.out.on HB1.out).k1
        rw [HN.out] at k1
        go_upto_region 5 with fail
        have q0 : wr.drew.cell? ⟨b1, 0, none⟩ = some (.slice none 0 0) := (rk_none HR1.out).2.2
        have q1 : ∀ A, (wr.alloc A).cell? ⟨b1, 0, none⟩ = some (.slice none 0 0) := fun A => (rk_none (HR1.out.on ((Below.refl _ _).alloc (Nat.le_refl _) A))).2.2
        have M1 : Hid True := trivial
        go_region_law (first
          | (have FIRST := M1; refine step_callC (v := .slice (some ⟨g2, 0, none⟩) n c2) rfl (.tmp 21) 102 rfl (by simp [Act.eval]; try rfl) enters20 ?_; refine (cloneS_any (n := n) (own_kp (T := fun _ => False) HO.out (Kp.of HB1.out.drew) (fun _ _ => id)) (heads_one HH.out) (by rw [HH.out.1, HN.out]; exact HLen.out) (HH.out.1.trans HN.out)).mono ?_; rintro e w2 ⟨p2, c3, rfl, ho2, hb2⟩; refine ⟨_, rfl, ?_⟩; have HO2 := hid ho2; have HB2 : Hid (Below wr.heap.size wr w2) := (Below.refl _ _).drew.trans hb2; have k2 := (rk_none (HR1.out.on HB2.out)).2.2; have k2a : ∀ A, (w2.alloc A).cell? ⟨b1, 0, none⟩ = some (.slice none 0 0) := (fun A => (rk_none ((HR1.out.on HB2.out).on ((Below.refl _ _).alloc (Nat.le_refl _) A))).2.2); clear FIRST M1 ho2 hb2)
          | (refine step_appP (N := 24) (B := w.heap.size) (xs := []) (ys := [.slice p2 n c3]) elem22 one_len (fun x hx => by simp at hx; subst hx; intro c hc; simp [one] at hc; subst hc; rfl) rfl (.tmp 20) (.tmp 23) rfl (by simp [Act.eval]; try rfl) (by simp [Act.eval]; try rfl) (Own.nil _ _ _ _ _) one1 (by simp) (by decide) (by rw [World.size_alloc]; exact Nat.le_trans HB1.out.size (Nat.le_succ_of_le HB2.out.size)) ?_; intro v3 w3 hown3 hg3 hat3; rw [List.nil_append] at hown3; obtain ⟨hf1, hf2, k3, f3⟩ := cloned HNe.out HU.out HR1.out (Nat.le_refl _) HB1.out HH.out HB2.out HO2.out hown3 hg3; obtain ⟨p3, c4, rfl⟩ := own_formN (n := 1) hown3 rfl; have HF1 := hid hf1; have HF2 := hid hf2; clear hown3 hg3 hat3 hf1 hf2))
        all_goals
          go_wp2
          go_roundw
          case rel => exact .inr ⟨by go_num, ⟨_, _, HF1.out⟩, HF2.out⟩
          case measure => simp [intOf]
      · go_wp2
        go_ret
        exact ⟨b1, sv', pv', rfl, HR.out, HB.out⟩
end Go.Proofs.YtlbjbkhcnafhcaaGreat.RN
namespace Go.Proofs.YtlbjbkhcnafhcaaGreat
open Go.RowKit Go.Sort Go.Shelf

structure Sh where
  nm : ByteArray
  kv : Value
  vv : Value
instance : Inhabited Sh := ⟨⟨⟨#[]⟩, .slice none 0 0, .slice none 0 0⟩⟩
def Sh.cells (h : Sh) : List Value := [.string h.nm, h.kv, h.vv]
theorem sh_len (h : Sh) : h.cells.length = 3 := rfl
structure ShIs (w : World) (h : Sh) (s : Sc) : Prop where
  nm : h.nm = s.nm
  ks : ColsAt w h.kv s.ks
  vs : ColsAt w h.vv s.vs
theorem ShIs.on {w w' : World} {h : Sh} {s : Sc} (x : ShIs w h s) (hb : Below w.heap.size w w') : ShIs w' h s := ⟨x.nm, x.ks.on hb, x.vs.on hb⟩
/- One header a schema. -/
def HeadsS (w : World) (hs : List Sh) (l : List Sc) : Prop := hs.length = l.length ∧ ∀ (j : Nat) h s, hs[j]? = some h → l[j]? = some s → ShIs w h s
theorem HeadsS.on {w w' : World} {hs : List Sh} {l : List Sc} (h : HeadsS w hs l) (hb : Below w.heap.size w w') : HeadsS w' hs l := ⟨h.1, fun j x s h1 h2 => (h.2 j x s h1 h2).on hb⟩
theorem HeadsS.take {w : World} {hs : List Sh} {l : List Sc} (h : HeadsS w hs l) (m : Nat) : HeadsS w (hs.take m) (l.take m) := by
  refine ⟨by rw [List.length_take, List.length_take, h.1], fun j x s h1 h2 => ?_⟩
  rw [List.getElem?_take] at h1 h2
  split at h1
  · rename_i hj
    rw [if_pos hj] at h2
    exact h.2 j x s h1 h2
  · cases h1
def SchsAt (w : World) (v : Value) (l : List Sc) : Prop := ∃ hs, SlAt any Sh.cells 3 w v hs ∧ HeadsS w hs l
theorem SchsAt.on {w w' : World} {v : Value} {l : List Sc} (h : SchsAt w v l) (hb : Below w.heap.size w w') : SchsAt w' v l := let ⟨hs, h1, h2⟩ := h; ⟨hs, h1.on hb, h2.on hb⟩
def ScAt (w : World) (v : Value) (s : Sc) : Prop := ∃ kv vv, v = .agg #[.string s.nm, kv, vv] ∧ ColsAt w kv s.ks ∧ ColsAt w vv s.vs
theorem ScAt.on {w w' : World} {v : Value} {s : Sc} (h : ScAt w v s) (hb : Below w.heap.size w w') : ScAt w' v s := let ⟨k, u, h0, h1, h2⟩ := h; ⟨k, u, h0, h1.on hb, h2.on hb⟩
def PtAt (w : World) (v : Value) (p : Pt) : Prop := ∃ kv vv, v = .agg #[.string p.sc, kv, .int .i64 p.tm, vv] ∧ RowAt w kv p.ks ∧ RowAt w vv p.vs
theorem PtAt.on {w w' : World} {v : Value} {p : Pt} (h : PtAt w v p) (hb : Below w.heap.size w w') : PtAt w' v p := let ⟨k, u, h0, h1, h2⟩ := h; ⟨k, u, h0, h1.on hb, h2.on hb⟩
structure ShCells (w : World) (b o : Nat) (h : Sh) : Prop where
  c0 : w.cell? ⟨b, o, none⟩ = some (.string h.nm)
  c1 : w.cell? ⟨b, o + 1, none⟩ = some h.kv
  c2 : w.cell? ⟨b, o + 2, none⟩ = some h.vv
theorem sh_cells {w : World} {b o : Nat} {h : Sh} (x : CellsAt w b o h.cells) : ShCells w b o h := ⟨x 0 _ rfl, x 1 _ rfl, x 2 _ rfl⟩
theorem heads_names {w : World} {hs : List Sh} {l : List Sc} (h : HeadsS w hs l) : hs.map Sh.nm = l.map Sc.nm := by
  apply List.ext_getElem
  · rw [List.length_map, List.length_map, h.1]
  · intro i h1 h2
    rw [List.getElem_map, List.getElem_map]
    have h1' : i < hs.length := by simpa using h1
    have h2' : i < l.length := by simpa using h2
    exact (h.2 i _ _ (List.getElem?_eq_getElem h1') (List.getElem?_eq_getElem h2')).nm
theorem findS_from (nm : ByteArray) : ∀ (hs : List Sh) (i : Nat), Lib.idxByFrom (fun _ (y : Sh) => decide (y.nm = nm)) default hs i = nameFrom nm (hs.map Sh.nm) i
  | [], _ => rfl
  | y :: r, i => by
    unfold Lib.idxByFrom
    rw [findS_from nm r (i + 1), List.map_cons]
    show _ = if y.nm = nm then (i : Int) else nameFrom nm (r.map Sh.nm) (i + 1)
    by_cases h : y.nm = nm <;> simp [h]
theorem heads_at {w : World} {hs : List Sh} {l : List Sc} (h : HeadsS w hs l) (nm : ByteArray) : Lib.idxBy (fun _ (y : Sh) => decide (y.nm = nm)) hs default = atS l nm := by
  unfold atS
  rw [← heads_names h]
  exact findS_from nm hs 0
theorem ret_int' {a b : Int} (h : a = b) : Ending.returned (.int .i64 a) = .returned (.int .i64 b) := by rw [h]
end Go.Proofs.YtlbjbkhcnafhcaaGreat
namespace Go.Proofs.YtlbjbkhcnafhcaaGreat
open Go.RowKit Go.Sort Go.Maps

abbrev D1 := DataW Unit
abbrev dp (b : Nat) : Value := .pointer (some ⟨b, 0, none⟩)
/- A map's element that is a pointer reads as its block's number. -/
def pElem : Value → Option (DataW Unit × List MemPlace)
  | .pointer none => some (.lit (.int .i64 (-1)), [])
  | .pointer (some ⟨b, 0, none⟩) => some (.lit (.int .i64 (b : Int)), [])
  | _ => none
theorem pElem_dp (b : Nat) : pElem (dp b) = some (.lit (.int .i64 (b : Int)), []) := rfl
theorem pElem_inv {v : Value} {y : DataW Unit × List MemPlace} (h : pElem v = some y) : (v = .pointer none ∧ y = (.lit (.int .i64 (-1)), [])) ∨ ∃ b : Nat, v = dp b ∧ y = (.lit (.int .i64 (b : Int)), []) := by
  unfold pElem at h
  split at h
  · cases h; exact .inl ⟨rfl, rfl⟩
  · rename_i b
    cases h; exact .inr ⟨b, rfl, rfl⟩
  · cases h
theorem law3 : Keyed Tryz.prog 3 := int_keyed Tryz.underlying3
theorem key3 {x : Int} (h : (Lit.int .i64 x).wf = true) : keyOf Tryz.prog 3 (.int .i64 x) = some (.int .i64 x) := keyOf_int_mk Tryz.underlying3 h
theorem key3n {n : Nat} (h : n ≤ 1000) : keyOf Tryz.prog 3 (.int .i64 (n : Int)) = some (.int .i64 (n : Int)) := key3 (WalkArith.wf_i64 (by omega))
theorem zero74 (w : World) : (zeroValue 74).run Tryz.prog w = .ok (.pointer none) w := by kernel_rfl
def runAt (bs : List Nat) (x : Int) : Int := if 0 ≤ x ∧ x < (bs.length : Int) then ((bs[x.toNat]! : Nat) : Int) else -1
def AgR (D : D1) (bs : List Nat) : Prop := ∀ x : Int, Maps.has D (.int .i64 x) = decide (0 ≤ x ∧ x < (bs.length : Int)) ∧ D.atKey (.int .i64 x) (.lit (.int .i64 (-1))) = .lit (.int .i64 (runAt bs x))
theorem AgR.nil : AgR (.map []) [] := fun x => by
  refine ⟨?_, ?_⟩
  · have : ¬ (0 ≤ x ∧ x < (([] : List Nat).length : Int)) := by simp only [List.length_nil]; omega
    rw [decide_eq_false this]; rfl
  · unfold runAt
    rw [if_neg (by simp only [List.length_nil]; omega)]; rfl
theorem isKey3 (x : Int) : WideAt.IsKeyLit (.int .i64 x) := trivial
theorem runAt_in {bs : List Nat} {j : Nat} {b : Nat} (h : bs[j]? = some b) : runAt bs (j : Int) = (b : Int) := by
  have hj := (List.getElem?_eq_some_iff.1 h).1
  unfold runAt
  rw [if_pos (by omega), Int.toNat_natCast, getElem!_pos bs j hj]
  rw [List.getElem?_eq_getElem hj] at h
  rw [Option.some.inj h]
theorem runAt_out {bs : List Nat} : runAt bs (bs.length : Int) = -1 := by
  unfold runAt
  rw [if_neg (by omega)]
theorem AgR.put {D : D1} {bs : List Nat} {b : Nat} (h : AgR D bs) (hm : IsMap D) : AgR (D.put (.int .i64 (bs.length : Int)) (.lit (.int .i64 (b : Int)))) (bs ++ [b]) := by
  intro x
  by_cases e : x = (bs.length : Int)
  · subst e
    refine ⟨?_, ?_⟩
    · rw [has_put_same hm (isKey3 _)]
      simp only [List.length_append, List.length_singleton]
      rw [decide_eq_true]; omega
    · rw [atKey_put_same hm (isKey3 _)]
      rw [runAt_in (b := b) (by simp)]
  · have hne : (Lit.int .i64 x) ≠ .int .i64 (bs.length : Int) := fun h => e (by injection h)
    obtain ⟨h1, h2⟩ := h x
    refine ⟨?_, ?_⟩
    · rw [has_put_other hne, h1]
      congr 1
      apply propext
      simp
      omega
    · rw [atKey_put_other hne, h2]
      unfold runAt
      by_cases c : 0 ≤ x ∧ x < (bs.length : Int)
      · rw [if_pos c, if_pos (by simp; omega)]
        have : x.toNat < bs.length := by omega
        rw [getElem!_pos bs _ this, getElem!_pos (bs ++ [b]) _ (by simp; omega), List.getElem_append_left this]
      · rw [if_neg c, if_neg (by simp; omega)]
/- m[k] in the map of runs. -/
theorem look_run {w : World} {sm n : Nat} {D : D1} {bs : List Nat} {x : Int} (h : w.ownsMap Tryz.prog 3 pElem sm n D) (ha : AgR D bs) (hx : (Lit.int .i64 x).wf = true) :
    (Instr.lookup 70 (.map (some sm)) (.int .i64 x) false).run Tryz.prog w = .ok (if 0 ≤ runAt bs x then dp (runAt bs x).toNat else .pointer none) w := by
  obtain ⟨v, ps, hrun, hv⟩ := h.lookup (t := 70) (e := 74) law3 Tryz.underlying70 (zero74 w) (zd := .lit (.int .i64 (-1))) (zp := []) rfl (key3 hx)
  rw [(ha x).2] at hv
  rw [hrun]
  rcases pElem_inv hv with ⟨rfl, hy⟩ | ⟨b, rfl, hy⟩
  · simp only [Prod.mk.injEq, DataW.lit.injEq, Lit.int.injEq, true_and] at hy
    rw [hy.1, if_neg (by omega)]
  · simp only [Prod.mk.injEq, DataW.lit.injEq, Lit.int.injEq, true_and] at hy
    rw [hy.1, if_pos (by omega), Int.toNat_natCast]
theorem look_in {w : World} {sm n : Nat} {D : D1} {bs : List Nat} {j b : Nat} (h : w.ownsMap Tryz.prog 3 pElem sm n D) (ha : AgR D bs) (hb : bs[j]? = some b) (hj : j ≤ 1000) :
    (Instr.lookup 70 (.map (some sm)) (.int .i64 (j : Int)) false).run Tryz.prog w = .ok (dp b) w := by
  rw [look_run h ha (WalkArith.wf_i64 (by omega)), runAt_in hb, if_pos (by omega), Int.toNat_natCast]
theorem look_out {w : World} {sm n : Nat} {D : D1} {bs : List Nat} (h : w.ownsMap Tryz.prog 3 pElem sm n D) (ha : AgR D bs) (hj : bs.length ≤ 1000) :
    (Instr.lookup 70 (.map (some sm)) (.int .i64 (bs.length : Int)) false).run Tryz.prog w = .ok (.pointer none) w := by
  rw [look_run h ha (WalkArith.wf_i64 (by omega)), runAt_out, if_neg (by omega)]
theorem pmap_kp {T : Nat → Prop} {w w' : World} {m n : Nat} {D : D1} (h : w.ownsMap Tryz.prog 3 pElem m n D) (hk : Kp T w w') (ht : ¬ T m) : w'.ownsMap Tryz.prog 3 pElem m n D := by
  obtain ⟨es, c, hb, r⟩ := h
  exact ⟨es, c, hk.blk hb ht, r⟩
theorem pmap_blk {w : World} {m n : Nat} {D : D1} (h : w.ownsMap Tryz.prog 3 pElem m n D) : ∃ es c, w.heap[m]? = some (.map es c) := let ⟨es, c, hb, _⟩ := h; ⟨es, c, hb⟩

/- Where a run lies; where a leaf lies. -/
structure Rm where
  b : Nat
  sv : Value
  pv : Value
structure Lx where
  sc : Value
  sv : Value
  m : Nat
  sm : Nat
  rs : List Rm
def Rm.T (r : Rm) (k : Nat) : Prop := RN.Tr r.b r.sv r.pv k
def Tl (b : Nat) (x : Lx) (k : Nat) : Prop := SN.Tc b x.sv x.m k ∨ k = x.sm ∨ ∃ r ∈ x.rs, r.T k
abbrev fxL (room : Int) (n : Nat) (x : Lx) : SN.Fx := ⟨x.sc, .int .i64 room, .int .i64 (n : Int), .map (some x.sm)⟩
/- Columns in a block of columns. -/
def tyC (w : World) (k : Nat) : Prop := ∃ (c : Array Value) (fz : Nat × Nat), w.heap[k]? = some (.cells c 90 fz)
def ColT (w : World) (v : Value) (cs : List Cl) : Prop := SlAt (tyC w) Cl.cells 2 w v cs
theorem ColT.kp {T : Nat → Prop} {w w' : World} {v : Value} {cs : List Cl} (h : ColT w v cs) (hk : Kp T w w') (ht : ∀ k, tyC w k → ¬ T k) : ColT w' v cs := by
  obtain ⟨p, cap, hv, hc, hm, hx⟩ := h
  refine ⟨p, cap, hv, hc, hm, fun hn => ?_⟩
  obtain ⟨b, o, hp, hQ, hj⟩ := hx hn
  have hb : w'.heap[b]? = w.heap[b]? := by
    obtain ⟨c, fz, hc⟩ := hQ.1
    exact hk.block b (lt_of_block hc) (ht b hQ.1)
  exact ⟨b, o, hp, ⟨by obtain ⟨c, fz, hc⟩ := hQ.1; exact ⟨c, fz, hb.trans hc⟩, hQ.2⟩, fun j x hjx i u hu => (World.cell?_of_block (a := ⟨b, o + j * 2 + i, none⟩) hb).trans (hj j x hjx i u hu)⟩
theorem ColT.on {w w' : World} {v : Value} {cs : List Cl} (h : ColT w v cs) (hb : Below w.heap.size w w') : ColT w' v cs := h.kp (T := fun _ => False) (Kp.of hb) (fun _ _ => id)
theorem ColT.at {w : World} {v : Value} {cs : List Cl} (h : ColT w v cs) : ColsAt w v cs := SlAt.imp h fun _ _ => trivial
theorem own_colT {B : Nat} {w : World} {v : Value} {cs : List Cl} (h : Own Cl.cells 2 90 B w v cs) (hl : cs.length * bsz 2 ≤ 140737488355328) : ColT w v cs := by
  have h0 := Own.sl h cl_len hl
  obtain ⟨p, cap, hv, hc, hm, hx⟩ := h0
  refine ⟨p, cap, hv, hc, hm, fun hn => ?_⟩
  obtain ⟨b, o, hp, hQ, hj⟩ := hx hn
  refine ⟨b, o, hp, ⟨?_, hQ.2⟩, hj⟩
  rcases h.2 with ⟨_, h1⟩ | ⟨g, cap', cur, hv', hg, hblk, q⟩
  · exact absurd (List.eq_nil_of_length_eq_zero h1) hn
  · rw [hv, hp] at hv'
    cases hv'
    exact ⟨_, _, hblk⟩
def HeadsT (w : World) (hs : List Sh) (l : List Sc) : Prop := hs.length = l.length ∧ ∀ (j : Nat) h s, hs[j]? = some h → l[j]? = some s → h.nm = s.nm ∧ ColT w h.kv s.ks ∧ ColT w h.vv s.vs
theorem HeadsT.kp {T : Nat → Prop} {w w' : World} {hs : List Sh} {l : List Sc} (h : HeadsT w hs l) (hk : Kp T w w') (ht : ∀ k, tyC w k → ¬ T k) : HeadsT w' hs l := ⟨h.1, fun j x s h1 h2 => let ⟨a, b, c⟩ := h.2 j x s h1 h2; ⟨a, b.kp hk ht, c.kp hk ht⟩⟩
theorem HeadsT.on {w w' : World} {hs : List Sh} {l : List Sc} (h : HeadsT w hs l) (hb : Below w.heap.size w w') : HeadsT w' hs l := h.kp (T := fun _ => False) (Kp.of hb) (fun _ _ => id)
theorem HeadsT.at {w : World} {hs : List Sh} {l : List Sc} (h : HeadsT w hs l) : HeadsS w hs l := ⟨h.1, fun j x s h1 h2 => let ⟨a, b, c⟩ := h.2 j x s h1 h2; ⟨a, b.at, c.at⟩⟩
/- Schemas, in blocks of schemas and of columns. -/
def tyS (w : World) (k : Nat) : Prop := ∃ (c : Array Value) (t : TypeId) (fz : Nat × Nat), w.heap[k]? = some (.cells c t fz) ∧ (t = 52 ∨ t = 90)
def ty52 (w : World) (k : Nat) : Prop := ∃ (c : Array Value) (fz : Nat × Nat), w.heap[k]? = some (.cells c 52 fz)
def SchB (w : World) (v : Value) (S : List Sc) : Prop := ∃ hs, SlAt (ty52 w) Sh.cells 3 w v hs ∧ HeadsT w hs S
theorem sl52_kp {T : Nat → Prop} {w w' : World} {v : Value} {hs : List Sh} (h : SlAt (ty52 w) Sh.cells 3 w v hs) (hk : Kp T w w') (ht : ∀ k, ty52 w k → ¬ T k) : SlAt (ty52 w') Sh.cells 3 w' v hs := by
  obtain ⟨p, cap, hv, hc, hm, hx⟩ := h
  refine ⟨p, cap, hv, hc, hm, fun hn => ?_⟩
  obtain ⟨b, o, hp, hQ, hj⟩ := hx hn
  have hb : w'.heap[b]? = w.heap[b]? := by
    obtain ⟨c, fz, hc⟩ := hQ.1
    exact hk.block b (lt_of_block hc) (ht b hQ.1)
  exact ⟨b, o, hp, ⟨by obtain ⟨c, fz, hc⟩ := hQ.1; exact ⟨c, fz, hb.trans hc⟩, hQ.2⟩, fun j x hjx i u hu => (World.cell?_of_block (a := ⟨b, o + j * 3 + i, none⟩) hb).trans (hj j x hjx i u hu)⟩
theorem SchB.at {w : World} {v : Value} {S : List Sc} (h : SchB w v S) : SchsAt w v S := let ⟨hs, h1, h2⟩ := h; ⟨hs, h1.imp fun _ _ => trivial, h2.at⟩
theorem SchB.kp {T : Nat → Prop} {w w' : World} {v : Value} {S : List Sc} (h : SchB w v S) (hk : Kp T w w') (ht : ∀ k, tyS w k → ¬ T k) : SchB w' v S :=
  let ⟨hs, h1, h2⟩ := h; ⟨hs, sl52_kp h1 hk fun k ⟨c, fz, hc⟩ => ht k ⟨c, 52, fz, hc, .inl rfl⟩, h2.kp hk fun k ⟨c, fz, hc⟩ => ht k ⟨c, 90, fz, hc, .inr rfl⟩⟩
theorem SchB.on {w w' : World} {v : Value} {S : List Sc} (h : SchB w v S) (hb : Below w.heap.size w w') : SchB w' v S := h.kp (T := fun _ => False) (Kp.of hb) (fun _ _ => id)
/- The runs of a leaf. -/
structure Rl (B : Nat) (P : Nat → Prop) (w : World) (rs : List Rm) (R : List (List Sp)) : Prop where
  len : rs.length = R.length
  run : ∀ (j : Nat) r q, rs[j]? = some r → R[j]? = some q → RN.Rk B P w r.b r.sv r.pv q
  apart : ∀ (i j : Nat) r s, i ≠ j → rs[i]? = some r → rs[j]? = some s → ∀ k, r.T k → ¬ s.T k
structure Lk (B : Nat) (P : Nat → Prop) (w : World) (b : Nat) (S : List Sc) (room : Int) (x : Lx) (l : List Sm) (R : List (List Sp)) (n : Nat) : Prop where
  dk : SN.Dk (fxL room n x) B P w b room x.sv x.m l
  sch : SchB w x.sc S
  smB : B ≤ x.sm
  ne : x.sm ≠ x.m
  map : ∃ D : D1, w.ownsMap Tryz.prog 3 pElem x.sm l.length D ∧ AgR D (x.rs.map Rm.b)
  rl : Rl B P w x.rs R
  len : R.length = l.length
theorem Rl.kp {B : Nat} {P T : Nat → Prop} {w w' : World} {rs : List Rm} {R : List (List Sp)} (h : Rl B P w rs R) (hk : Kp T w w') (hb : ∀ r ∈ rs, ∀ k, r.T k → ¬ T k) (ht : ∀ k, ty36 P w k → ¬ T k) : Rl B P w' rs R :=
  ⟨h.len, fun j r q h1 h2 => (h.run j r q h1 h2).kp hk (hb r (List.mem_of_getElem? h1)) ht, h.apart⟩
theorem Rl.get {B : Nat} {P : Nat → Prop} {w : World} {rs : List Rm} {R : List (List Sp)} (h : Rl B P w rs R) {r : Rm} (hr : r ∈ rs) : ∃ (j : Nat) (q : List Sp), rs[j]? = some r ∧ R[j]? = some q ∧ RN.Rk B P w r.b r.sv r.pv q := by
  obtain ⟨j, hj, rfl⟩ := List.getElem_of_mem hr
  have hj2 : j < R.length := by rw [← h.len]; exact hj
  exact ⟨j, R[j], List.getElem?_eq_getElem hj, List.getElem?_eq_getElem hj2, h.run j _ _ (List.getElem?_eq_getElem hj) (List.getElem?_eq_getElem hj2)⟩
theorem Lk.T_ge {B : Nat} {P : Nat → Prop} {w : World} {b : Nat} {S : List Sc} {room : Int} {x : Lx} {l : List Sm} {R : List (List Sp)} {n : Nat} (h : Lk B P w b S room x l R n) : ∀ k, Tl b x k → B ≤ k := by
  rintro k (hk | rfl | ⟨r, hr, hk⟩)
  · exact h.dk.T_ge k hk
  · exact h.smB
  · obtain ⟨j, q, _, _, hq⟩ := h.rl.get hr
    exact hq.T_ge k hk
/- What the blocks of a leaf are. -/
theorem Lk.T_kind {B : Nat} {P : Nat → Prop} {w : World} {b : Nat} {S : List Sc} {room : Int} {x : Lx} {l : List Sm} {R : List (List Sp)} {n : Nat} (h : Lk B P w b S room x l R n) : ∀ k, Tl b x k → k < w.heap.size ∧ ∀ cs t fz, w.heap[k]? = some (.cells cs t fz) → t = 72 ∨ t = 97 ∨ t = 101 ∨ t = 102 ∨ t = 105 := by
  rintro k (hk | rfl | ⟨r, hr, hk⟩)
  · refine ⟨h.dk.T_lt k hk, fun cs t fz hc => ?_⟩
    by_cases c1 : t = 72
    · exact .inl c1
    · by_cases c2 : t = 97
      · exact .inr (.inl c2)
      · exact absurd hk (h.dk.T_not hc c1 c2)
  · obtain ⟨D, hD, _⟩ := h.map
    obtain ⟨es, c, hb⟩ := pmap_blk hD
    refine ⟨hD.lt, fun cs t fz hc => ?_⟩
    rw [hb] at hc; cases hc
  · obtain ⟨j, q, _, _, hq⟩ := h.rl.get hr
    obtain ⟨cs, t, fz, hc, ht⟩ := hq.T_kind k hk
    refine ⟨hq.T_lt k hk, fun cs' t' fz' hc' => ?_⟩
    rw [hc] at hc'; cases hc'
    exact .inr (.inr ht)
theorem Lk.T_not {B : Nat} {P : Nat → Prop} {w : World} {b : Nat} {S : List Sc} {room : Int} {x : Lx} {l : List Sm} {R : List (List Sp)} {n : Nat} (h : Lk B P w b S room x l R n) {k : Nat} {cs : Array Value} {t : TypeId} {fz : Nat × Nat} (hk : w.heap[k]? = some (.cells cs t fz)) (h1 : t ≠ 72) (h2 : t ≠ 97) (h3 : t ≠ 101) (h4 : t ≠ 102) (h5 : t ≠ 105) : ¬ Tl b x k := by
  intro hT
  rcases (h.T_kind k hT).2 cs t fz hk with e | e | e | e | e
  · exact h1 e
  · exact h2 e
  · exact h3 e
  · exact h4 e
  · exact h5 e
theorem Lk.tyS_not {B : Nat} {P : Nat → Prop} {w : World} {b : Nat} {S : List Sc} {room : Int} {x : Lx} {l : List Sm} {R : List (List Sp)} {n : Nat} (h : Lk B P w b S room x l R n) {k : Nat} (hk : tyS w k) : ¬ Tl b x k := by
  obtain ⟨c, t, fz, hc, e⟩ := hk
  rcases e with rfl | rfl
  · exact h.T_not hc (by decide) (by decide) (by decide) (by decide) (by decide)
  · exact h.T_not hc (by decide) (by decide) (by decide) (by decide) (by decide)
theorem Lk.ty_not {B : Nat} {P P' : Nat → Prop} {w : World} {b : Nat} {S : List Sc} {room : Int} {x : Lx} {l : List Sm} {R : List (List Sp)} {n : Nat} (h : Lk B P w b S room x l R n) {k : Nat} (hk : ty36 P' w k) : ¬ Tl b x k := by
  obtain ⟨-, c, fz, hc⟩ := hk
  exact h.T_not hc (by decide) (by decide) (by decide) (by decide) (by decide)
theorem Lk.kp {B : Nat} {P T : Nat → Prop} {w w' : World} {b : Nat} {S : List Sc} {room : Int} {x : Lx} {l : List Sm} {R : List (List Sp)} {n : Nat} (h : Lk B P w b S room x l R n) (hk : Kp T w w') (hT : ∀ k, tyS w k → ¬ T k) (hb : ∀ k, Tl b x k → ¬ T k) (ht : ∀ k, ty36 P w k → ¬ T k) : Lk B P w' b S room x l R n := by
  obtain ⟨D, hD, ha⟩ := h.map
  exact ⟨h.dk.kp hk (hb _ (.inl (.inl rfl))) (fun g hg => hb g (.inl (.inr (.inl hg)))) (hb _ (.inl (.inr (.inr rfl)))) ht, h.sch.kp hk hT, h.smB, h.ne, ⟨D, pmap_kp hD hk (hb _ (.inr (.inl rfl))), ha⟩, h.rl.kp hk (fun r hr k hk => hb k (.inr (.inr ⟨r, hr, hk⟩))) ht, h.len⟩
theorem Lk.on {B : Nat} {P : Nat → Prop} {w w' : World} {b : Nat} {S : List Sc} {room : Int} {x : Lx} {l : List Sm} {R : List (List Sp)} {n : Nat} (h : Lk B P w b S room x l R n) (hb : Below w.heap.size w w') : Lk B P w' b S room x l R n :=
  h.kp (T := fun _ => False) (Kp.of hb) (fun _ _ => id) (fun _ _ => id) (fun _ _ => id)
theorem Lk.P {B : Nat} {P P' : Nat → Prop} {w : World} {b : Nat} {S : List Sc} {room : Int} {x : Lx} {l : List Sm} {R : List (List Sp)} {n : Nat} (h : Lk B P w b S room x l R n) (hp : ∀ k, k < w.heap.size → P k → P' k) : Lk B P' w b S room x l R n :=
  ⟨h.dk.P hp, h.sch, h.smB, h.ne, h.map, ⟨h.rl.len, fun j r q h1 h2 => (h.rl.run j r q h1 h2).P hp, h.rl.apart⟩, h.len⟩
/- A leaf of these points. -/
structure Lf (B : Nat) (P : Nat → Prop) (w : World) (b : Nat) (S : List Sc) (room : Int) (x : Lx) (pts : List Pt) : Prop where
  lk : ∃ l R, Lk B P w b S room x l R pts.length ∧ Iv pts l R
theorem Lf.kp {B : Nat} {P T : Nat → Prop} {w w' : World} {b : Nat} {S : List Sc} {room : Int} {x : Lx} {pts : List Pt} (h : Lf B P w b S room x pts) (hk : Kp T w w') (hT : ∀ k, tyS w k → ¬ T k) (hb : ∀ k, Tl b x k → ¬ T k) (ht : ∀ k, ty36 P w k → ¬ T k) : Lf B P w' b S room x pts := let ⟨l, R, h1, h2⟩ := h.lk; ⟨l, R, h1.kp hk hT hb ht, h2⟩
theorem Lf.on {B : Nat} {P : Nat → Prop} {w w' : World} {b : Nat} {S : List Sc} {room : Int} {x : Lx} {pts : List Pt} (h : Lf B P w b S room x pts) (hb : Below w.heap.size w w') : Lf B P w' b S room x pts := let ⟨l, R, h1, h2⟩ := h.lk; ⟨l, R, h1.on hb, h2⟩
theorem Lf.P {B : Nat} {P P' : Nat → Prop} {w : World} {b : Nat} {S : List Sc} {room : Int} {x : Lx} {pts : List Pt} (h : Lf B P w b S room x pts) (hp : ∀ k, k < w.heap.size → P k → P' k) : Lf B P' w b S room x pts := let ⟨l, R, h1, h2⟩ := h.lk; ⟨l, R, h1.P hp, h2⟩
end Go.Proofs.YtlbjbkhcnafhcaaGreat
namespace Go.Proofs
open Go.Shelf
def Tryz.lays144_ren : Go.Shelf.Ren := ⟨fun | 144 => 95 | 143 => 116 | 219 => 135 | 217 => 143 | 225 => 144 | 224 => 145 | 267 => 146 | 266 => 148 | 314 => 149 | n => n, fun | 9 => 9 | 4 => 4 | 3 => 3 | 5 => 5 | 46 => 160 | 146 => 196 | 51 => 180 | n => n, fun | 1 => 0 | n => n⟩
theorem Tryz.lays144 : Go.Proofs.Lays.n144 Tryz.prog Tryz.lays144_ren := {
  mixed := by kernel_rfl
  f143 := Tryz.func116.trans (congrArg some (by kernel_rfl))
  f144 := Tryz.func95.trans (congrArg some (by kernel_rfl))
  f217 := Tryz.func143.trans (congrArg some (by kernel_rfl))
  f219 := Tryz.func135.trans (congrArg some (by kernel_rfl))
  f224 := Tryz.func145.trans (congrArg some (by kernel_rfl))
  f225 := Tryz.func144.trans (congrArg some (by kernel_rfl))
  f266 := Tryz.func148.trans (congrArg some (by kernel_rfl))
  f267 := Tryz.func146.trans (congrArg some (by kernel_rfl))
  f314 := Tryz.func149.trans (congrArg some (by kernel_rfl))
  t3 := Tryz.underlying3
  a3 := Tryz.isAgg3
  z3 := Tryz.sizeOf3
  v3 := Tryz.zeroValue3
  t4 := Tryz.underlying4
  a4 := Tryz.isAgg4
  z4 := Tryz.sizeOf4
  v4 := Tryz.zeroValue4
  t5 := Tryz.underlying5
  a5 := Tryz.isAgg5
  z5 := Tryz.sizeOf5
  v5 := Tryz.zeroValue5
  t9 := Tryz.underlying9
  a9 := Tryz.isAgg9
  z9 := Tryz.sizeOf9
  v9 := Tryz.zeroValue9
  t46 := Tryz.underlying160
  a46 := Tryz.isAgg160
  z46 := Tryz.sizeOf160
  v46 := Tryz.zeroValue160
  t51 := Tryz.underlying180
  a51 := Tryz.isAgg180
  z51 := Tryz.sizeOf180
  v51 := Tryz.zeroValue180
  t146 := Tryz.underlying196
  a146 := Tryz.isAgg196
  z146 := Tryz.sizeOf196
  v146 := Tryz.zeroValue196
  g1 := by kernel_rfl }
open Go.RowKit Go.Lib in
theorem Tryz.strings_Contains_one (s : ByteArray) (c : UInt8) (w : World) :
    Calls Tryz.prog 95 #[.string s, .string ⟨#[c]⟩] w fun e w' => e = .returned (.bool (decide (0 ≤ Lib.indexByte s.data.toList c))) ∧ w' = w := Any.strings_Contains_one Tryz.lays144 s c w
def Tryz.indexS_ren : Go.Shelf.Ren := ⟨fun | 6 => 71 | n => n, fun | 22 => 22 | 23 => 52 | 25 => 92 | 3 => 3 | 0 => 0 | 4 => 4 | n => n, fun | n => n⟩
theorem Tryz.indexS : Go.Proofs.SlLaysH0.n6 Tryz.prog Tryz.indexS_ren := {
  mixed := by kernel_rfl
  f6 := ⟨Tryz.f71.name, by decide, Tryz.func71.trans (congrArg some (by kernel_rfl))⟩
  t0 := Tryz.underlying0
  a0 := Tryz.isAgg0
  z0 := Tryz.sizeOf0
  v0 := Tryz.zeroValue0
  t3 := Tryz.underlying3
  a3 := Tryz.isAgg3
  z3 := Tryz.sizeOf3
  v3 := Tryz.zeroValue3
  t4 := Tryz.underlying4
  a4 := Tryz.isAgg4
  z4 := Tryz.sizeOf4
  v4 := Tryz.zeroValue4
  t22 := Tryz.underlying22
  a22 := Tryz.isAgg22
  z22 := Tryz.sizeOf22
  v22 := Tryz.zeroValue22
  t25 := Tryz.underlying92
  a25 := Tryz.isAgg92
  z25 := Tryz.sizeOf92
  v25 := Tryz.zeroValue92 }
def Tryz.containsC_ren : Go.Shelf.Ren := ⟨fun | 8 => 98 | 6 => 117 | n => n, fun | 22 => 41 | 23 => 90 | 25 => 151 | 3 => 3 | 0 => 0 | 4 => 4 | n => n, fun | n => n⟩
theorem Tryz.containsC : Go.Proofs.SlLaysH0.n8 Tryz.prog Tryz.containsC_ren := {
  mixed := by kernel_rfl
  f6 := ⟨Tryz.f117.name, by decide, Tryz.func117.trans (congrArg some (by kernel_rfl))⟩
  f8 := ⟨Tryz.f98.name, by decide, Tryz.func98.trans (congrArg some (by kernel_rfl))⟩
  t0 := Tryz.underlying0
  a0 := Tryz.isAgg0
  z0 := Tryz.sizeOf0
  v0 := Tryz.zeroValue0
  t3 := Tryz.underlying3
  a3 := Tryz.isAgg3
  z3 := Tryz.sizeOf3
  v3 := Tryz.zeroValue3
  t4 := Tryz.underlying4
  a4 := Tryz.isAgg4
  z4 := Tryz.sizeOf4
  v4 := Tryz.zeroValue4
  t22 := Tryz.underlying41
  a22 := Tryz.isAgg41
  z22 := Tryz.sizeOf41
  v22 := Tryz.zeroValue41
  t25 := Tryz.underlying151
  a25 := Tryz.isAgg151
  z25 := Tryz.sizeOf151
  v25 := Tryz.zeroValue151 }
def Tryz.growC_ren : Go.Shelf.Ren := ⟨fun | 4 => 91 | n => n, fun | 22 => 41 | 25 => 90 | 3 => 3 | 4 => 4 | 9 => 9 | 20 => 20 | 0 => 0 | n => n, fun | n => n⟩
theorem Tryz.growC : Go.Proofs.Lays8.n4 Tryz.prog Tryz.growC_ren := {
  mixed := by kernel_rfl
  f4 := ⟨Tryz.f91.name, by decide, Tryz.func91.trans (congrArg some (by kernel_rfl))⟩
  t0 := Tryz.underlying0
  a0 := Tryz.isAgg0
  z0 := Tryz.sizeOf0
  v0 := Tryz.zeroValue0
  t3 := Tryz.underlying3
  a3 := Tryz.isAgg3
  z3 := Tryz.sizeOf3
  v3 := Tryz.zeroValue3
  t4 := Tryz.underlying4
  a4 := Tryz.isAgg4
  z4 := Tryz.sizeOf4
  v4 := Tryz.zeroValue4
  t9 := Tryz.underlying9
  a9 := Tryz.isAgg9
  z9 := Tryz.sizeOf9
  v9 := Tryz.zeroValue9
  t20 := Tryz.underlying20
  a20 := Tryz.isAgg20
  z20 := Tryz.sizeOf20
  v20 := Tryz.zeroValue20
  t22 := Tryz.underlying41
  a22 := Tryz.isAgg41
  z22 := Tryz.sizeOf41
  v22 := Tryz.zeroValue41 }
end Go.Proofs
namespace Go.Proofs.YtlbjbkhcnafhcaaGreat
open Go.RowKit Go.Sort Go.Shelf

theorem idx_hash : ∀ l : List UInt8, decide (0 ≤ Lib.indexByte l 35) = decide ((35 : UInt8) ∈ l)
  | [] => by decide
  | b :: l => by
    have ih := idx_hash l
    have h2 : -1 ≤ Lib.indexByte l 35 := by
      have : ∀ l : List UInt8, -1 ≤ Lib.indexByte l 35 := by
        intro l
        induction l with
        | nil => decide
        | cons b l ih => unfold Lib.indexByte; split <;> (try split) <;> omega
      exact this l
    rw [Bool.eq_iff_iff] at ih ⊢
    simp only [decide_eq_true_eq, List.mem_cons] at ih ⊢
    unfold Lib.indexByte
    by_cases hb : b = 35
    · subst hb; simp
    · rw [if_neg (by simpa using hb)]
      have hb' : ¬ (35 : UInt8) = b := fun e => hb e.symm
      by_cases h3 : Lib.indexByte l 35 = -1
      · rw [if_pos (by simpa using h3)]
        rw [h3] at ih
        constructor
        · intro h; omega
        · rintro (h | h)
          · exact absurd h hb'
          · have := ih.2 h; omega
      · rw [if_neg (by simpa using h3)]
        constructor
        · intro _; exact .inr (ih.1 (by omega))
        · intro _; omega
theorem contains_hash (s : ByteArray) (w : World) : Calls Tryz.prog 95 #[.string s, .string ⟨#[35]⟩] w fun e w' => e = .returned (.bool (hashB s)) ∧ w' = w := by
  have h := Tryz.strings_Contains_one s 35 w
  rw [idx_hash] at h
  exact h
theorem takenB_eq (s : ByteArray) : takenB s = (s.toList == ([102, 101, 116, 99, 104] : List UInt8) || (s.toList == ([102, 114, 111, 109] : List UInt8) || (s.toList == ([116, 111] : List UInt8) || (s.toList == ([119, 104, 101, 114, 101] : List UInt8) || (s.toList == ([107, 101, 101, 112] : List UInt8) || (s.toList == ([97, 108, 105, 103, 110] : List UInt8) || (s.toList == ([103, 114, 111, 117, 112] : List UInt8) || (s.toList == ([116, 111, 112] : List UInt8) || (s.toList == ([98, 121] : List UInt8) || (s.toList == ([106, 111, 105, 110] : List UInt8) || (s.toList == ([117, 110, 105, 111, 110] : List UInt8) || (s.toList == ([97, 110, 100] : List UInt8) || (s.toList == ([111, 114] : List UInt8) || (s.toList == ([110, 111, 116] : List UInt8) || (s.toList == ([104, 97, 115] : List UInt8) || (s.toList == ([116, 114, 117, 101] : List UInt8) || (s.toList == ([102, 97, 108, 115, 101] : List UInt8) || (s.toList == ([99, 111, 117, 110, 116] : List UInt8) || (s.toList == ([115, 117, 109] : List UInt8) || (s.toList == ([109, 105, 110] : List UInt8) || (s.toList == ([109, 97, 120] : List UInt8) || (s.toList == ([109, 101, 97, 110] : List UInt8) || (s.toList == ([109, 101, 114, 103, 101] : List UInt8) || (s.toList == ([116, 105, 109, 101] : List UInt8) || false)))))))))))))))))))))))) := by
  have e : ∀ t : ByteArray, decide (t = s) = (s.toList == t.data.toList) := fun t => by rw [← ByteArray.toList_eq, bytes_beq]; exact decide_eq_decide.2 eq_comm
  simp only [takenB, taken, List.any_cons, List.any_nil, e]
set_option maxHeartbeats 8000000 in
theorem taken_any {s : ByteArray} {w : World} : Calls Tryz.prog 96 #[.string s] w fun e w' => e = .returned (.bool (takenB s)) ∧ w' = w := by
  generalize hr : takenB s = r
  have HR := hid hr
  clear hr
  go_enter Tryz.func96, Tryz.ntmps96
  go_wp2
  all_goals
    go_ret
    refine ⟨ret_bool ?_, rfl⟩
    rw [← HR.out, takenB_eq]
    clear HR
    first | (simp [*]; done) | (simp_all; done)
end Go.Proofs.YtlbjbkhcnafhcaaGreat
