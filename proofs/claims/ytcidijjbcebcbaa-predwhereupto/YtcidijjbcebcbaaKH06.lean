/-
  The reference's reader: its error is a number that it keeps.
  The reference's reader: a word, a token, one more that is open.
  The reference's reader lays a node.
  The reference's reader takes a token of a kind.
-/
import Derived.Test.YtcidijjbcebcbaaKH03
import Derived.Test.YtcidijjbcebcbaaKH05
import Derived.Deep.QuietTactic
import Derived.BigQuiet
namespace Go.Proofs.Ytcidijjbcebcbaa
open Go.RowKit Go.Joins

theorem below_drewN {B : Nat} {a w : World} (h : Below B a w) (n : Nat) : Below B a (w.drewN n) := ⟨h.os, h.tape, h.output, h.size, h.block⟩
/- The reader: its tokens (below B), the next one's number, its nodes, its error, how many are open. -/
structure Ry (B : Nat) (ts : List Tp) (w : World) (rb : Nat) (tv sv : Value) (E : Int) (o i : Nat) (qs : List Nd) : Prop where
  bB : B ≤ rb
  blk : w.heap[rb]? = some (.cells #[tv, .int .i64 (i : Int), sv, .int .i64 E, .int .i64 (o : Int)] 91 (0, 0))
  own : Own Nd.cells 19 51 B w sv qs
  each : ∀ q ∈ qs, NdIn B w q
  tok : SlAt (fun b => b < B) Tp.cells 4 w tv ts
  il : i ≤ ts.length
  tl : ts.length ≤ 1024
  ql : qs.length ≤ i
  ol : o ≤ 17
/- What a reading comes to, as the reader keeps it. -/
def Cm {α : Type} (r : Rs α) (x : α) (i : Nat) (E : Int) : Prop := (r = .bad i E ∧ ¬ E = 0) ∨ (r = .ok x i ∧ E = 0)
def lf {α : Type} (E : Int) (i : Nat) (r : Rs α) : Rs α := if E = 0 then r else .bad i E
theorem Cm.and {α β : Type} {r : Rs α} {f : α → Nat → Rs β} {x : α} {y : β} {i j : Nat} {E E' : Int} (h : Cm r x i E) (h2 : Cm (lf E i (f x i)) y j E') : Cm (r.and f) y j E' := by
  rcases h with ⟨h, hE⟩ | ⟨h, hE⟩
  · rw [h]; unfold lf at h2; rw [if_neg hE] at h2; exact h2
  · rw [h]; unfold lf at h2; rw [if_pos hE] at h2; exact h2
theorem Cm.lfand {α β : Type} {r : Rs α} {f : α → Nat → Rs β} {x : α} {y : β} {i0 i j : Nat} {E0 E E' : Int} (h : Cm (lf E0 i0 r) x i E) (h2 : Cm (lf E i (f x i)) y j E') : Cm (lf E0 i0 (r.and f)) y j E' := by
  unfold lf at h ⊢
  by_cases hE : E0 = 0
  · rw [if_pos hE] at h ⊢; exact h.and h2
  · rw [if_neg hE] at h ⊢
    rcases h with ⟨h, hE⟩ | ⟨h, hE⟩
    · cases h; unfold lf at h2; rw [if_neg hE] at h2; exact h2
    · cases h
theorem lf_bad {α : Type} {E : Int} {i : Nat} {r : Rs α} {x : α} (hE : ¬ E = 0) : Cm (lf E i r) x i E := .inl ⟨if_neg hE, hE⟩
section
variable {B : Nat} {ts : List Tp} {w w' : World} {rb : Nat} {tv sv : Value} {E : Int} {o i : Nat} {qs : List Nd}
theorem Ry.T_ge (h : Ry B ts w rb tv sv E o i qs) : ∀ k, Tq rb sv k → B ≤ k := by
  rintro k (rfl | hk)
  · exact h.bB
  · exact (h.own.at hk).1
theorem Ry.T_lt (h : Ry B ts w rb tv sv E o i qs) : ∀ k, Tq rb sv k → k < w.heap.size := by
  rintro k (rfl | hk)
  · exact lt_of_block h.blk
  · exact (h.own.at hk).2
theorem Ry.ne (h : Ry B ts w rb tv sv E o i qs) : ∀ g, sv.ownBlock = some g → g ≠ rb := fun g hg e => by
  obtain ⟨c, fz, hc⟩ := h.own.kind hg; rw [e, h.blk] at hc; cases hc
theorem Ry.tk (h : Ry B ts w rb tv sv E o i qs) : TK w (Tq rb sv) := by
  rintro k (rfl | hk) c t fz hc
  · rw [h.blk] at hc; cases hc; decide
  · obtain ⟨c', fz', hc'⟩ := h.own.kind hk; rw [hc'] at hc; cases hc; decide
theorem Ry.tkr (h : Ry B ts w rb tv sv E o i qs) : TK w (fun k => k = rb) := fun k e => h.tk k (.inl e)
theorem Ry.kp {T : Nat → Prop} (h : Ry B ts w rb tv sv E o i qs) (hk : Kp T w w') (ht : ∀ k, Tq rb sv k → ¬ T k) (hT : TK w T) (hB : ∀ k, T k → B ≤ k) : Ry B ts w' rb tv sv E o i qs :=
  ⟨h.bB, hk.blk h.blk (ht rb (.inl rfl)), h.own.kp hk (fun g hg => ht g (.inr hg)), fun q hq => (h.each q hq).kp hk hT, h.tok.kp hk (fun b hb hTb => by have := hB b hTb; omega), h.il, h.tl, h.ql, h.ol⟩
theorem Ry.on (h : Ry B ts w rb tv sv E o i qs) (hb : Below w.heap.size w w') : Ry B ts w' rb tv sv E o i qs := h.kp (T := fun _ => False) (Kp.of hb) (fun _ _ => id) (TK.no w) (fun _ h => h.elim)
theorem Ry.cell (h : Ry B ts w rb tv sv E o i qs) : ∀ j, w.cell? ⟨rb, j, none⟩ = #[tv, .int .i64 (i : Int), sv, .int .i64 E, .int .i64 (o : Int)][j]? := block_cell h.blk
theorem Ry.frozen (h : Ry B ts w rb tv sv E o i qs) : ∀ j, w.frozen? ⟨rb, j, none⟩ = false := block_frozen h.blk
theorem Ry.lt (h : Ry B ts w rb tv sv E o i qs) : rb < w.heap.size := lt_of_block h.blk
theorem Ry.put (h : Ry B ts w rb tv sv E o i qs) (hk : Kp (fun k => k = rb) w w') {E' : Int} {i' o' : Nat} (hb : w'.heap[rb]? = some (.cells #[tv, .int .i64 (i' : Int), sv, .int .i64 E', .int .i64 (o' : Int)] 91 (0, 0))) (hi : i' ≤ ts.length) (hq : qs.length ≤ i') (ho : o' ≤ 17) : Ry B ts w' rb tv sv E' o' i' qs :=
  ⟨h.bB, hb, h.own.kp hk (fun g hg e => h.ne g hg e), fun q hq => (h.each q hq).kp hk h.tkr, h.tok.kp hk (fun b hb e => by have := h.bB; omega), hi, h.tl, hq, ho⟩
theorem Ry.next (h : Ry B ts w rb tv sv E o i qs) (hi : i < ts.length) : Ry B ts (w.setCell ⟨rb, 1, none⟩ (.int .i64 ((i : Int) + 1))) rb tv sv E o (i + 1) qs :=
  h.put (Kp.set (T := fun k => k = rb) rfl _) (by have := block_set h.blk 1 (.int .i64 ((i : Int) + 1)); simpa using this) hi (by have := h.ql; omega) h.ol
theorem Ry.err (h : Ry B ts w rb tv sv E o i qs) (c : Int) : Ry B ts (w.setCell ⟨rb, 3, none⟩ (.int .i64 c)) rb tv sv c o i qs :=
  h.put (Kp.set (T := fun k => k = rb) rfl _) (by have := block_set h.blk 3 (.int .i64 c); simpa using this) h.il h.ql h.ol
theorem Ry.more (h : Ry B ts w rb tv sv E o i qs) (ho : o ≤ 16) : Ry B ts (w.setCell ⟨rb, 4, none⟩ (.int .i64 ((o : Int) + 1))) rb tv sv E (o + 1) i qs :=
  h.put (Kp.set (T := fun k => k = rb) rfl _) (by have := block_set h.blk 4 (.int .i64 ((o : Int) + 1)); simpa using this) h.il h.ql (by omega)
theorem Ry.less {o : Nat} (h : Ry B ts w rb tv sv E (o + 1) i qs) : Ry B ts (w.setCell ⟨rb, 4, none⟩ (.int .i64 (o : Int))) rb tv sv E o i qs :=
  h.put (Kp.set (T := fun k => k = rb) rfl _) (by have := block_set h.blk 4 (.int .i64 (o : Int)); simpa using this) h.il h.ql (by have := h.ol; omega)
set_option maxRecDepth 100000 in
set_option maxHeartbeats 1000000 in
theorem ris_any (h : Ry B ts w rb tv sv E o i qs) (x : List UInt8) : Calls Try.prog 114 #[dp rb, .string (St x)] w fun e w' => e = .returned (.bool (decide (E = 0) && isW ts i x)) ∧ Below w.heap.size w w' := by
  have k0 := h.cell
  have HT := hid h.tok
  have hil := h.il
  have htl := h.tl
  obtain ⟨p, cap, rfl, hc1, hc2⟩ := h.tok.form
  unfold maxLen at hc2
  have i0 : (0 : Int) ≤ i := by omega
  clear h
  by_cases hE : E = 0
  · subst hE
    generalize hln : ts.length = ln at *
    have HLn := hid hln
    clear hln
    by_cases hi : i < ln
    · have HI := hid (isW_here ts i x)
      have HH := hid (here_lt (ts := ts) (i := i) (by have := HLn.out; omega))
      obtain ⟨g, og, rfl, hg, hc⟩ := HT.out.at (j := i) (List.getElem?_eq_getElem (by have := HLn.out; omega))
      rw [HH.out] at HI
      generalize ts[i]'(by have := HLn.out; omega) = t at *
      have e0 : w.cell? ⟨g, og + i * 4, none⟩ = some (.int .i64 t.kind) := hc 0 _ rfl
      have e1 : w.cell? ⟨g, og + i * 4 + 1, none⟩ = some (.string (St t.s)) := hc 1 _ rfl
      have hs := St_dec t.s x
      have b1 : (t.kind == 1) = decide (t.kind = 1) := by rw [Bool.eq_iff_iff]; simp
      have b4 : (t.kind == 4) = decide (t.kind = 4) := by rw [Bool.eq_iff_iff]; simp
      have iI : (i : Int) < ln := by omega
      have dI : decide ((i : Int) < ln) = true := by simpa using iI
      clear hc hg HT HH
      generalize decide (t.kind = 1) = k1 at *
      generalize decide (t.kind = 4) = k4 at *
      generalize decide (t.s = x) = kx at *
      generalize isW ts i x = r at *
      cases k1 <;> cases k4 <;> cases kx
      all_goals
        (go_enter Try.func114, Try.ntmps114
         go_wp2_with fail
         go_quiet (fail)
         go_wp2
         go_ret
         exact ⟨by rw [HI.out]; rfl, below_drewN (Below.refl _ _) _⟩)
    · have HI : Hid (isW ts i x = false) := by
        show _ = _; cases hw : isW ts i x with
        | false => rfl
        | true => have := isW_lt hw; have := HLn.out; omega
      have iI : ¬ (i : Int) < ln := by omega
      have dI : decide ((i : Int) < ln) = false := by simpa using iI
      clear HT
      go_enter Try.func114, Try.ntmps114
      go_wp2_with fail
      go_quiet (fail)
      go_wp2
      go_ret
      exact ⟨by rw [HI.out]; rfl, below_drewN (Below.refl _ _) _⟩
  · have bE : (E == 0) = false := by simp [hE]
    have HE := hid hE
    clear HT hE
    go_enter Try.func114, Try.ntmps114
    go_wp2_with fail
    go_quiet (fail)
    go_wp2
    go_ret
    exact ⟨by have := HE.out; simp [this], below_drewN (Below.refl _ _) _⟩
end
end Go.Proofs.Ytcidijjbcebcbaa
namespace Go.Proofs.Ytcidijjbcebcbaa
open Go.RowKit Go.Joins

/- What a function that lays no nodes comes to. -/
def Y1 {α : Type} (B : Nat) (ts : List Tp) (rb : Nat) (tv sv : Value) (o : Nat) (qs : List Nd) (w : World) (val : World → α → Value → Prop) (r : Rs α) (e : Ending) (w' : World) : Prop :=
  Kp (fun k => k = rb) w w' ∧ ∃ x v E i, e = .returned v ∧ val w' x v ∧ Ry B ts w' rb tv sv E o i qs ∧ Cm r x i E
def isE (E : Int) (ts : List Tp) (i : Nat) (x : List UInt8) : Bool := decide (E = 0) && isW ts i x
theorem isE_lt {E : Int} {ts : List Tp} {i : Nat} {x : List UInt8} (h : isE E ts i x = true) : i < ts.length := by
  unfold isE at h; rw [Bool.and_eq_true] at h; exact isW_lt h.2
theorem isE_E {E : Int} {ts : List Tp} {i : Nat} {x : List UInt8} (h : isE E ts i x = true) : E = 0 := by
  unfold isE at h; rw [Bool.and_eq_true] at h; simpa using h.1
theorem isE_W {E : Int} {ts : List Tp} {i : Nat} {x : List UInt8} (h : isE E ts i x = true) : isW ts i x = true := by
  unfold isE at h; rw [Bool.and_eq_true] at h; exact h.2
section
variable {B : Nat} {ts : List Tp} {w w' : World} {rb : Nat} {tv sv : Value} {E : Int} {o i : Nat} {qs : List Nd}
set_option maxRecDepth 100000 in
set_option maxHeartbeats 1000000 in
theorem rsees_any (h : Ry B ts w rb tv sv E o i qs) (x : List UInt8) : Calls Try.prog 87 #[dp rb, .string (St x)] w fun e w' => e = .returned (.bool (isE E ts i x)) ∧ Ry B ts w' rb tv sv E o (if isE E ts i x then i + 1 else i) qs ∧ Kp (fun k => k = rb) w w' := by
  have HQ := hid h
  have HS := hid (ris_any h x)
  have hil : (i : Int) ≤ 1024 := by have := h.il; have := h.tl; omega
  have hi0 : (0 : Int) ≤ i := by omega
  clear h
  change Hid (Calls Try.prog 114 #[dp rb, .string (St x)] w fun e w' => e = .returned (.bool (isE E ts i x)) ∧ Below w.heap.size w w') at HS
  cases hw : isE E ts i x with
  | true =>
    have HI := hid (isE_lt hw)
    rw [hw] at HS
    clear hw
    go_enter Try.func87, Try.ntmps87
    go_wp2_with (go_at_call 114; refine HS.out.mono ?_; rintro e w1 ⟨rfl, hb⟩; have HB := hid hb; have HQ1 := hid (HQ.out.on hb); have k1 := HQ1.out.cell; have z1 := HQ1.out.frozen; clear hb)
    go_ret
    exact ⟨rfl, HQ1.out.next HI.out, (Kp.of HB.out).trans (Kp.set (T := fun k => k = rb) rfl _)⟩
  | false =>
    rw [hw] at HS
    clear hw
    go_enter Try.func87, Try.ntmps87
    go_wp2_with (go_at_call 114; refine HS.out.mono ?_; rintro e w1 ⟨rfl, hb⟩; have HB := hid hb; have HQ1 := hid (HQ.out.on hb); clear hb)
    go_ret
    exact ⟨rfl, HQ1.out, Kp.of HB.out⟩
def erS (E c : Int) : Int := if E = 0 then c else E
theorem erS_ne {E c : Int} (hc : ¬ c = 0) : ¬ erS E c = 0 := by unfold erS; split <;> assumption
theorem erS_lf {α : Type} {E : Int} {i : Nat} {x : α} : Cm (lf E i (.bad i 120 : Rs α)) x i (erS E 120) := by
  by_cases hE : E = 0
  · subst hE; exact .inl ⟨rfl, by decide⟩
  · have : erS E 120 = E := if_neg hE
    rw [this]; exact lf_bad hE
set_option maxRecDepth 100000 in
set_option maxHeartbeats 1000000 in
theorem rfail_any (h : Ry B ts w rb tv sv E o i qs) : Calls Try.prog 89 #[dp rb] w fun e w' => e = .returned (.tuple #[]) ∧ Ry B ts w' rb tv sv (erS E 120) o i qs ∧ Kp (fun k => k = rb) w w' := by
  have HQ := hid h
  have k0 := h.cell
  have z0 := h.frozen
  clear h
  by_cases hE : E = 0
  · subst hE
    go_enter Try.func89, Try.ntmps89
    go_wp2_with fail
    go_end0
    exact ⟨rfl, HQ.out.err 120, Kp.set (T := fun k => k = rb) rfl _⟩
  · have bE : (E == 0) = false := by simp [hE]
    have HE : Hid (erS E 120 = E) := if_neg hE
    clear hE
    go_enter Try.func89, Try.ntmps89
    go_wp2_with fail
    go_end0
    exact ⟨rfl, by rw [HE.out]; exact HQ.out, Kp.refl _ _⟩
set_option maxRecDepth 100000 in
set_option maxHeartbeats 1000000 in
theorem rwants_any (h : Ry B ts w rb tv sv E o i qs) (x : List UInt8) : Calls Try.prog 133 #[dp rb, .string (St x)] w (Y1 B ts rb tv sv o qs w vNone (lf E i (wantS ts x i))) := by
  have HS := hid (rsees_any h x)
  clear h
  cases hw : isE E ts i x with
  | true =>
    have HC : Hid (Cm (lf E i (wantS ts x i)) () (i + 1) 0) := .inr ⟨by rw [isE_E hw]; unfold lf wantS; rw [if_pos rfl, isE_W hw]; rfl, rfl⟩
    have HE := hid (isE_E hw)
    rw [hw] at HS
    clear hw
    go_enter Try.func133, Try.ntmps133
    go_wp2_with (go_at_call 87; refine HS.out.mono ?_; rintro e w1 ⟨rfl, hq, hk⟩; have HQ1 := hid hq; have HK1 := hid hk; clear hq hk)
    go_end0
    exact ⟨HK1.out, (), _, 0, i + 1, rfl, rfl, by have := HQ1.out; rw [HE.out] at this; exact this, HC.out⟩
  | false =>
    have HC : Hid (Cm (lf E i (wantS ts x i)) () i (erS E 120)) := by
      by_cases hE : E = 0
      · subst hE
        have hf : isW ts i x = false := by simpa [isE] using hw
        show Cm _ _ _ _
        unfold wantS; rw [hf]; exact erS_lf
      · have : erS E 120 = E := if_neg hE
        rw [this]; exact lf_bad hE
    rw [hw] at HS
    clear hw
    go_enter Try.func133, Try.ntmps133
    go_wp2_with (first
      | (go_at_call 87; refine HS.out.mono ?_; rintro e w1 ⟨rfl, hq, hk⟩; have HQ1 := hid hq; have HK1 := hid hk; clear hq hk)
      | (go_at_call 89; refine (rfail_any HQ1.out).mono ?_; rintro e w2 ⟨rfl, hq, hk⟩; have HQ2 := hid hq; have HK2 := hid hk; clear hq hk))
    go_end0
    exact ⟨HK1.out.trans HK2.out, (), _, _, i, rfl, rfl, HQ2.out, HC.out⟩
/- One more is open, behind the sign that stood there. -/
def DpP (B : Nat) (ts : List Tp) (rb : Nat) (tv sv : Value) (E : Int) (o i : Nat) (qs : List Nd) (w : World) (e : Ending) (w' : World) : Prop :=
  e = .returned (.tuple #[]) ∧ Kp (fun k => k = rb) w w' ∧ ((¬ E = 0 ∧ Ry B ts w' rb tv sv E (o + 1) i qs) ∨ (E = 0 ∧ 16 ≤ o ∧ Ry B ts w' rb tv sv 2 (o + 1) (i - 1) qs) ∨ (E = 0 ∧ o < 16 ∧ Ry B ts w' rb tv sv 0 (o + 1) i qs))
theorem Ry.back1 (h : Ry B ts w rb tv sv E o i qs) (hi : qs.length + 1 ≤ i) (ho : o ≤ 16) : Ry B ts (((w.setCell ⟨rb, 3, none⟩ (.int .i64 2)).setCell ⟨rb, 1, none⟩ (.int .i64 ((i : Int) - 1))).setCell ⟨rb, 4, none⟩ (.int .i64 ((o : Int) + 1))) rb tv sv 2 (o + 1) (i - 1) qs := by
  have e1 : ((i - 1 : Nat) : Int) = (i : Int) - 1 := by omega
  refine h.put (((Kp.set (T := fun k => k = rb) rfl _).trans (Kp.set (T := fun k => k = rb) rfl _)).trans (Kp.set (T := fun k => k = rb) rfl _)) ?_ (by have := h.il; omega) (by omega) (by omega)
  have := block_set (block_set (block_set h.blk 3 (.int .i64 2)) 1 (.int .i64 ((i : Int) - 1))) 4 (.int .i64 ((o : Int) + 1))
  rw [e1]; simpa using this
set_option maxRecDepth 100000 in
set_option maxHeartbeats 1000000 in
theorem rdeeper_any (h : Ry B ts w rb tv sv E o i qs) (hl : qs.length + 1 ≤ i) (ho : o ≤ 16) : Calls Try.prog 132 #[dp rb] w (DpP B ts rb tv sv E o i qs w) := by
  have HQ := hid h
  have HL := hid hl
  have HO := hid ho
  have k0 := h.cell
  have z0 := h.frozen
  have hi1 : (1 : Int) ≤ i := by omega
  have hil : (i : Int) ≤ 1024 := by have := h.il; have := h.tl; omega
  have ho0 : (0 : Int) ≤ o := by omega
  have ho2 : (o : Int) ≤ 16 := by omega
  clear h hl ho
  by_cases hE : E = 0
  · subst hE
    by_cases hd : 16 ≤ o
    · have dI : decide ((o : Int) ≥ 16) = true := by simp; omega
      have d2 : decide ((16 : Int) ≤ o) = true := by simp; omega
      go_enter Try.func132, Try.ntmps132
      go_wp2_with fail
      go_end0
      exact ⟨rfl, ((Kp.set (T := fun k => k = rb) rfl _).trans (Kp.set (T := fun k => k = rb) rfl _)).trans (Kp.set (T := fun k => k = rb) rfl _), .inr (.inl ⟨rfl, hd, HQ.out.back1 HL.out HO.out⟩)⟩
    · have dI : decide ((o : Int) ≥ 16) = false := by simp; omega
      have d2 : decide ((16 : Int) ≤ o) = false := by simp; omega
      go_enter Try.func132, Try.ntmps132
      go_wp2_with fail
      go_end0
      exact ⟨rfl, Kp.set (T := fun k => k = rb) rfl _, .inr (.inr ⟨rfl, by omega, HQ.out.more HO.out⟩)⟩
  · have bE : (E == 0) = false := by simp [hE]
    have HE := hid hE
    clear hE
    go_enter Try.func132, Try.ntmps132
    go_wp2_with fail
    go_end0
    exact ⟨rfl, Kp.set (T := fun k => k = rb) rfl _, .inl ⟨HE.out, HQ.out.more HO.out⟩⟩
end
end Go.Proofs.Ytcidijjbcebcbaa
namespace Go.Proofs.Ytcidijjbcebcbaa
open Go.RowKit Go.Joins

section
variable {B : Nat} {ts : List Tp} {w w' : World} {rb : Nat} {tv sv : Value} {E : Int} {o i : Nat} {qs : List Nd}
theorem Ry.B_le (h : Ry B ts w rb tv sv E o i qs) : B ≤ w.heap.size := by have := h.bB; have := h.lt; omega
theorem rlay_app {W w3 : World} {v' : Value} {q : Nd} (h : Ry B ts w rb tv sv 0 o i qs) (hb : Below w.heap.size w W) (hown : Own Nd.cells 19 51 B w3 v' (qs ++ [q])) (hgr : W.grownBy w3 sv.ownBlock) (hat : At W sv v') (hq : NdIn B w q) (hl : qs.length + 1 ≤ i) :
    w3.heap[rb]? = some (.cells #[tv, .int .i64 (i : Int), sv, .int .i64 0, .int .i64 (o : Int)] 91 (0, 0)) ∧ Ry B ts (w3.setCell ⟨rb, 2, none⟩ v') rb tv v' 0 o i (qs ++ [q]) ∧ At w sv v' ∧ Kp (Tq rb sv) w (w3.setCell ⟨rb, 2, none⟩ v') := by
  have h2 := h.on hb
  have k3 : Kp (fun k => sv.ownBlock = some k) W w3 := Kp.grown hgr (fun k e => e)
  have c1 := k3.blk h2.blk (fun e => h.ne _ e rfl)
  have ks : Kp (fun k => k = rb) w3 (w3.setCell ⟨rb, 2, none⟩ v') := Kp.set (T := fun k => k = rb) rfl _
  have hall : Kp (Tq rb sv) w (w3.setCell ⟨rb, 2, none⟩ v') := ((Kp.of hb).trans' k3 (fun i _ e => .inr e)).trans' ks (fun i _ e => .inl e)
  have ho := hown.kp ks (fun k e e2 => by subst e2; obtain ⟨c, fz, hc⟩ := hown.kind e; rw [c1] at hc; cases hc)
  refine ⟨c1, ⟨h.bB, ?_, ho, ?_, ?_, h.il, h.tl, by simp; omega, h.ol⟩, ?_, hall⟩
  · have := block_set c1 2 v'; simpa using this
  · intro x hx
    rcases List.mem_append.1 hx with hx | hx
    · exact (h.each x hx).kp hall h.tk
    · simp at hx; subst hx; exact hq.kp hall h.tk
  · exact h.tok.kp hall (fun b hb hT => by have := h.T_ge b hT; omega)
  · exact fun k hk => (hat k hk).imp id (fun e => Nat.le_trans hb.size e)
/- What a row of nodes is after lay. -/
def YyP (B : Nat) (ts : List Tp) (rb : Nat) (tv sv : Value) (o i : Nat) (qs : List Nd) (w : World) (q : Nd) (e : Ending) (w' : World) : Prop :=
  e = .returned (.int .i64 (qs.length : Int)) ∧ ∃ sv', Ry B ts w' rb tv sv' 0 o i (qs ++ [q]) ∧ At w sv sv' ∧ Kp (Tq rb sv) w w'
set_option maxRecDepth 100000 in
set_option maxHeartbeats 4000000 in
theorem rlay_ok (h : Ry B ts w rb tv sv 0 o i qs) {q : Nd} (hq : NdIn B w q) (hl : qs.length + 1 ≤ i) : Calls Try.prog 88 #[dp rb, .agg q.cells.toArray] w (YyP B ts rb tv sv o i qs w q) := by
  obtain ⟨p, c, rfl⟩ := h.own.form
  have HK0 := hid h
  have HB : Hid (Below w.heap.size w (w.alloc (.cells q.cells.toArray 51 (0, 0)))) := (Below.refl _ _).alloc (Nat.le_refl _) _
  have HK := hid (h.on HB.out)
  have HQn := hid hq
  have HAll := hid hq.all
  have HLl := hid hl
  have hS0 : S6 w.heap.size q.cells.toArray (w.alloc (.cells q.cells.toArray 51 (0, 0))) := alloc_block w _
  have k0 := HK.out.cell
  have HLq : Hid (w.heap.size < (w.alloc (.cells q.cells.toArray 51 (0, 0))).heap.size) := by show _ < _; simp
  have hq1024 : (qs.length : Int) ≤ 1024 := by have := h.ql; have := h.il; have := h.tl; omega
  generalize hW : w.alloc (.cells q.cells.toArray 51 (0, 0)) = w1 at *
  have HW := hid hW
  have HSb := hid hS0
  clear h hW hq hl
  generalize hln : qs.length = ln at *
  have HLn := hid hln
  clear hln
  have HNb : Hid (w.heap.size ≠ rb) := fun e1 => by have := lt_of_block HK0.out.blk; omega
  go_enter Try.func88, Try.ntmps88
  go_upto_region 1 with fail
  rw [HW.out]
  go_upto_region 2 with fail
  refine wp_region_held_drew (S := S6 w.heap.size q.cells.toArray) (by kernel_rfl) hS0 (fun hT => ?_)
  refine wpAnyH_take (i := 0) (v := ?_) rfl (by kernel_rfl) (by kernel_rfl) (by kernel_rfl) (fun _ _ _ h => h) (Or.inl ⟨by rfl, ?_⟩) hT ?_
  rotate_left
  · intro w hSw
    go_simp
    try (with_reducible rfl)
  try go_frame
  refine wpAnyH_take (i := 1) (v := ?_) rfl (by kernel_rfl) (by kernel_rfl) (by kernel_rfl) (fun _ _ _ h => h) (Or.inl ⟨by rfl, ?_⟩) hT ?_
  rotate_left
  · intro w hSw
    go_simp
    try (with_reducible rfl)
  try go_frame
  refine wpAnyH_take (i := 2) (v := ?_) rfl (by kernel_rfl) (by kernel_rfl) (by kernel_rfl) (fun _ _ _ h => h) (Or.inl ⟨by rfl, ?_⟩) hT ?_
  rotate_left
  · intro w hSw
    go_simp
    try (with_reducible rfl)
  try go_frame
  refine wpAnyH_take (i := 3) (v := ?_) rfl (by kernel_rfl) (by kernel_rfl) (by kernel_rfl) (fun _ _ _ h => h) (Or.inl ⟨by rfl, ?_⟩) hT ?_
  rotate_left
  · intro w hSw
    go_simp
    try (with_reducible rfl)
  try go_frame
  refine wpAnyH_take (i := 5) (v := .agg q.cells.toArray) rfl (by kernel_rfl) (by kernel_rfl) (by kernel_rfl) (fun _ _ _ h => h) (yieldsIf_load_mid (by rfl) 51 (.tmp 3) rfl w.heap.size 0 rfl q.cells _ (fun _ h => s6_range h) Try.underlying51 rfl size_node) hT ?_
  try go_frame
  have HKc : Hid (Ry B ts w1.drew rb tv (.slice p ln c) 0 o i qs) := HK.out.on (Below.refl _ _).drew
  have HBw : Hid (Below w.heap.size w w1.drew) := HB.out.drew
  have HLc : Hid (w.heap.size < w1.drew.heap.size) := HLq.out
  generalize w1.drew = W2 at *
  clear k0 hS0
  refine wpAnyH_ready (rs := [4, 6]) (by kernel_rfl) (by simp) ?_
  refine AllReadyH.cons rfl (fun K hK => ?_) (AllReadyH.cons rfl (fun K hK => ?_) AllReadyH.nil)
  · have c1 : W2.cell? ⟨rb, 2, none⟩ = some (.slice p ln c) := block_cell HKc.out.blk 2
    go_simp
    refine hK.out _ _ hT (fun hT => ?_)
    clear hK c1
    try go_frame
    refine wpAnyH_ready (rs := [6]) (by kernel_rfl) (by simp) ?_
    refine AllReadyH.cons rfl (fun K hK => ?_) AllReadyH.nil
    refine step_bs (q := q) rfl (.tmp 15) rfl rfl ?_
    have HG3 : Hid ((W2.alloc (.cells ([q].flatMap Nd.cells).toArray 51)).heap[W2.heap.size]? = some (.cells ([q].flatMap Nd.cells).toArray 51)) := alloc_block _ _
    have HBa : Hid (Below W2.heap.size W2 (W2.alloc (.cells ([q].flatMap Nd.cells).toArray 51))) := (Below.refl _ _).alloc (Nat.le_refl _) _
    have hTa : S6 w.heap.size q.cells.toArray (W2.alloc (.cells ([q].flatMap Nd.cells).toArray 51)) := block_on hT HBa.out
    refine hK.out _ _ hTa (fun _ => ?_)
    clear hK hT
    have hT := hTa
    clear hTa
    try go_frame
    replace HKc := hid (HKc.out.on HBa.out)
    replace HBw := hid (HBw.out.trans (HBa.out.mono HBw.out.size))
    replace HLc := hid (Nat.lt_of_lt_of_le HLc.out HBa.out.size)
    clear HBa
    obtain ⟨W3, hW3⟩ : ∃ V, W2.alloc (.cells ([q].flatMap Nd.cells).toArray 51) = V := ⟨_, rfl⟩
    obtain ⟨g3, hg3⟩ : ∃ g, W2.heap.size = g := ⟨_, rfl⟩
    rw [hW3] at HG3 hT HKc HBw HLc
    rw [hg3] at HG3
    change wpAnyH _ _ _ _ _ _ _ _ (W2.alloc (.cells ([q].flatMap Nd.cells).toArray 51))
    rw [hW3, hg3]
    clear hW3 hg3
    refine wpAnyH_ready (rs := [7]) (by kernel_rfl) (by simp) ?_
    refine AllReadyH.cons rfl (fun K hK => ?_) AllReadyH.nil
    refine step_appP (xs := qs) (ys := [q]) (v := .slice p ln c) (u := .slice (some ⟨g3, 0, none⟩) 1 1) elem_node nd_len (fun y hy => by simp at hy; subst hy; exact HQn.out.one) rfl (.tmp 14) (.tmp 16) rfl (by simp [Act.eval]) (by simp [Act.eval]) (B := B) HKc.out.own (Own.sl (Own.blk (e := 51) (B := 0) (xs := [q]) nd_len (Nat.zero_le _) HG3.out (by unfold maxLen; simp)) nd_len) (by simp) (by rw [HLn.out]; simp; omega) (by omega) (Nat.le_trans HK0.out.B_le HBw.out.size) ?_
    intro v' w3 hown hgr hat
    obtain ⟨hc1, hlp, hAt, hKp⟩ := rlay_app HK0.out HBw.out hown hgr hat HQn.out (by rw [HLn.out]; exact HLl.out)
    have hT3 : S6 w.heap.size q.cells.toArray w3 := (hgr.block _ HLc.out (fun e1 => by have h1 : w.heap.size < w.heap.size := (HK0.out.own.at e1.symm).2; omega)).trans hT
    obtain ⟨pv, cv, rfl⟩ := hown.form
    have k3 : w3.cell? ⟨rb, 2, none⟩ = some (.slice p ln c) := block_cell hc1 2
    have f3 := block_frozen hc1 2
    have HLP := hid hlp
    have HAt := hid hAt
    have HKp := hid hKp
    have k5 := hlp.cell
    clear hlp hown hgr hat hT hAt hKp
    simp only [List.length_append, List.length_cons, List.length_nil, Nat.zero_add, HLn.out] at HLP HAt HKp k5 ⊢
    refine hK.out _ _ hT3 (fun hT => ?_)
    clear hK
    try go_frame
    refine wpAnyH_take (i := 8) (v := ?_) rfl (by kernel_rfl) (by kernel_rfl) (by kernel_rfl) (fun _ _ _ h => h) (Or.inl ⟨by rfl, ?_⟩) hT ?_
    rotate_left
    · intro w hSw
      go_simp
      try (with_reducible rfl)
    try go_frame
    refine wpAnyH_take (i := 9) (v := ?_) rfl (by kernel_rfl) (by kernel_rfl) (by kernel_rfl) (fun _ _ _ h => h) (Or.inl ⟨by rfl, ?_⟩) hT ?_
    rotate_left
    · intro w hSw
      go_simp
      try (with_reducible rfl)
    try go_frame
    refine wpAnyH_ready (rs := [10]) (by kernel_rfl) (by simp) ?_
    refine AllReadyH.cons rfl (fun K hK => ?_) AllReadyH.nil
    go_simp
    refine hK.out _ _ ((Below.heap_setCell _ _ _ _ HNb.out).trans hT3) (fun _ => ?_)
    refine wpAnyH_done (by kernel_rfl) ?_ _
    clear hK hT hT3 k3 f3
    go_wp2
    go_ret
    exact ⟨by rw [HLn.out]; rfl, _, HLP.out, HAt.out, HKp.out⟩
  · refine step_bs (q := q) rfl (.tmp 15) rfl rfl ?_
    have HG3 : Hid ((W2.alloc (.cells ([q].flatMap Nd.cells).toArray 51)).heap[W2.heap.size]? = some (.cells ([q].flatMap Nd.cells).toArray 51)) := alloc_block _ _
    have HBa : Hid (Below W2.heap.size W2 (W2.alloc (.cells ([q].flatMap Nd.cells).toArray 51))) := (Below.refl _ _).alloc (Nat.le_refl _) _
    have hTa : S6 w.heap.size q.cells.toArray (W2.alloc (.cells ([q].flatMap Nd.cells).toArray 51)) := block_on hT HBa.out
    refine hK.out _ _ hTa (fun _ => ?_)
    clear hK hT
    have hT := hTa
    clear hTa
    try go_frame
    replace HKc := hid (HKc.out.on HBa.out)
    replace HBw := hid (HBw.out.trans (HBa.out.mono HBw.out.size))
    replace HLc := hid (Nat.lt_of_lt_of_le HLc.out HBa.out.size)
    clear HBa
    obtain ⟨W3, hW3⟩ : ∃ V, W2.alloc (.cells ([q].flatMap Nd.cells).toArray 51) = V := ⟨_, rfl⟩
    obtain ⟨g3, hg3⟩ : ∃ g, W2.heap.size = g := ⟨_, rfl⟩
    rw [hW3] at HG3 hT HKc HBw HLc
    rw [hg3] at HG3
    change wpAnyH _ _ _ _ _ _ _ _ (W2.alloc (.cells ([q].flatMap Nd.cells).toArray 51))
    rw [hW3, hg3]
    clear hW3 hg3
    refine wpAnyH_ready (rs := [4]) (by kernel_rfl) (by simp) ?_
    refine AllReadyH.cons rfl (fun K hK => ?_) AllReadyH.nil
    have c1 : W3.cell? ⟨rb, 2, none⟩ = some (.slice p ln c) := block_cell HKc.out.blk 2
    go_simp
    refine hK.out _ _ hT (fun hT => ?_)
    clear hK c1
    try go_frame
    refine wpAnyH_ready (rs := [7]) (by kernel_rfl) (by simp) ?_
    refine AllReadyH.cons rfl (fun K hK => ?_) AllReadyH.nil
    refine step_appP (xs := qs) (ys := [q]) (v := .slice p ln c) (u := .slice (some ⟨g3, 0, none⟩) 1 1) elem_node nd_len (fun y hy => by simp at hy; subst hy; exact HQn.out.one) rfl (.tmp 14) (.tmp 16) rfl (by simp [Act.eval]) (by simp [Act.eval]) (B := B) HKc.out.own (Own.sl (Own.blk (e := 51) (B := 0) (xs := [q]) nd_len (Nat.zero_le _) HG3.out (by unfold maxLen; simp)) nd_len) (by simp) (by rw [HLn.out]; simp; omega) (by omega) (Nat.le_trans HK0.out.B_le HBw.out.size) ?_
    intro v' w3 hown hgr hat
    obtain ⟨hc1, hlp, hAt, hKp⟩ := rlay_app HK0.out HBw.out hown hgr hat HQn.out (by rw [HLn.out]; exact HLl.out)
    have hT3 : S6 w.heap.size q.cells.toArray w3 := (hgr.block _ HLc.out (fun e1 => by have h1 : w.heap.size < w.heap.size := (HK0.out.own.at e1.symm).2; omega)).trans hT
    obtain ⟨pv, cv, rfl⟩ := hown.form
    have k3 : w3.cell? ⟨rb, 2, none⟩ = some (.slice p ln c) := block_cell hc1 2
    have f3 := block_frozen hc1 2
    have HLP := hid hlp
    have HAt := hid hAt
    have HKp := hid hKp
    have k5 := hlp.cell
    clear hlp hown hgr hat hT hAt hKp
    simp only [List.length_append, List.length_cons, List.length_nil, Nat.zero_add, HLn.out] at HLP HAt HKp k5 ⊢
    refine hK.out _ _ hT3 (fun hT => ?_)
    clear hK
    try go_frame
    refine wpAnyH_take (i := 8) (v := ?_) rfl (by kernel_rfl) (by kernel_rfl) (by kernel_rfl) (fun _ _ _ h => h) (Or.inl ⟨by rfl, ?_⟩) hT ?_
    rotate_left
    · intro w hSw
      go_simp
      try (with_reducible rfl)
    try go_frame
    refine wpAnyH_take (i := 9) (v := ?_) rfl (by kernel_rfl) (by kernel_rfl) (by kernel_rfl) (fun _ _ _ h => h) (Or.inl ⟨by rfl, ?_⟩) hT ?_
    rotate_left
    · intro w hSw
      go_simp
      try (with_reducible rfl)
    try go_frame
    refine wpAnyH_ready (rs := [10]) (by kernel_rfl) (by simp) ?_
    refine AllReadyH.cons rfl (fun K hK => ?_) AllReadyH.nil
    go_simp
    refine hK.out _ _ ((Below.heap_setCell _ _ _ _ HNb.out).trans hT3) (fun _ => ?_)
    refine wpAnyH_done (by kernel_rfl) ?_ _
    clear hK hT hT3 k3 f3
    go_wp2
    go_ret
    exact ⟨by rw [HLn.out]; rfl, _, HLP.out, HAt.out, HKp.out⟩
set_option maxRecDepth 100000 in
set_option maxHeartbeats 1000000 in
theorem rlay_bad (h : Ry B ts w rb tv sv E o i qs) (q : Nd) (hE : ¬ E = 0) : Calls Try.prog 88 #[dp rb, .agg q.cells.toArray] w fun e w' => e = .returned (.int .i64 ((qs.length : Int) - 1)) ∧ Below w.heap.size w w' := by
  obtain ⟨p, c, rfl⟩ := h.own.form
  have HB : Hid (Below w.heap.size w (w.alloc (.cells q.cells.toArray 51 (0, 0)))) := (Below.refl _ _).alloc (Nat.le_refl _) _
  have k0 := (h.on HB.out).cell
  have hq1024 : (qs.length : Int) ≤ 1024 := by have := h.ql; have := h.il; have := h.tl; omega
  have hq0 : (0 : Int) ≤ qs.length := by omega
  have bE : (E == 0) = false := by simp [hE]
  generalize hW : w.alloc (.cells q.cells.toArray 51 (0, 0)) = w1 at *
  have HW := hid hW
  clear h hW hE
  generalize qs.length = ln at *
  go_enter Try.func88, Try.ntmps88
  go_upto_region 1 with fail
  rw [HW.out]
  go_wp2_with fail
  go_ret
  exact ⟨rfl, HB.out⟩
def Cm2 (r : Rs (Nat × List Np)) (z : Int) (ns : List Np) (i : Nat) (E : Int) : Prop := (r = .bad i E ∧ ¬ E = 0) ∨ (∃ a : Nat, z = a ∧ r = .ok (a, ns) i ∧ E = 0)
/- What one that lays nodes comes to. -/
def Y2 (B : Nat) (ts : List Tp) (rb : Nat) (tv sv : Value) (o : Nat) (w : World) (r : Rs (Nat × List Np)) (e : Ending) (w' : World) : Prop :=
  Kp (Tq rb sv) w w' ∧ ∃ (z : Int) (E : Int) (i : Nat) (sv' : Value) (qs' : List Nd), e = .returned (.int .i64 z) ∧ (-1 ≤ z ∧ z ≤ 1024) ∧ Ry B ts w' rb tv sv' E o i qs' ∧ At w sv sv' ∧ Cm2 r z (qs'.map (·.np)) i E
theorem rlay_any (h : Ry B ts w rb tv sv E o i qs) {q : Nd} (hq : NdIn B w q) (hl : E = 0 → qs.length + 1 ≤ i) : Calls Try.prog 88 #[dp rb, .agg q.cells.toArray] w (Y2 B ts rb tv sv o w (lf E i (.ok (qs.length, qs.map (·.np) ++ [q.np]) i))) := by
  have hq1024 : qs.length ≤ 1024 := by have := h.ql; have := h.il; have := h.tl; omega
  by_cases hE : E = 0
  · subst hE
    refine (rlay_ok h hq (hl rfl)).mono ?_
    rintro e w1 ⟨rfl, sv', hr, hat, hk⟩
    exact ⟨hk, _, 0, i, sv', _, rfl, by omega, hr, hat, .inr ⟨_, rfl, by simp [lf], rfl⟩⟩
  · refine (rlay_bad h q hE).mono ?_
    rintro e w1 ⟨rfl, hb⟩
    exact ⟨Kp.of hb, _, E, i, sv, qs, rfl, by omega, h.on hb, At.refl _ _, .inl ⟨if_neg hE, hE⟩⟩
end
end Go.Proofs.Ytcidijjbcebcbaa
namespace Go.Proofs.Ytcidijjbcebcbaa
open Go.RowKit Go.Joins

section
variable {B : Nat} {ts : List Tp} {w w' : World} {rb : Nat} {tv sv : Value} {E : Int} {o i : Nat} {qs : List Nd}
theorem kp_set4e (g : Nat) (w : World) (d0 d1 d2 d3 : Value) : Kp (fun k => k = g) w (set4 w g d0 d1 d2 d3) :=
  (((Kp.set (T := fun k => k = g) rfl _).trans (Kp.set (T := fun k => k = g) rfl _)).trans (Kp.set (T := fun k => k = g) rfl _)).trans (Kp.set (T := fun k => k = g) rfl _)
theorem Ry.back {w1 w2 : World} {E' : Int} {j o' : Nat} (h0 : Ry B ts w rb tv sv E o i qs) (h1 : Ry B ts w1 rb tv sv E' o' j qs) (hk : Kp (fun k => k = rb) w w1) (h2 : Kp (fun k => k = w.heap.size) w1 w2) (hs : ∃ c t fz, w1.heap[w.heap.size]? = some (.cells c t fz) ∧ t ≠ 3 ∧ t ≠ 9 ∧ t ≠ 199) : Ry B ts w2 rb tv sv E' o' j qs ∧ Kp (fun k => k = rb) w w2 := by
  obtain ⟨c, t, fz, hc, ht⟩ := hs
  refine ⟨h1.kp h2 (fun k hk e => ?_) (fun k e c' t' fz' hc' => ?_) (fun k e => ?_), hk.trans' h2 (fun k hk e => by omega)⟩
  · have := h0.T_lt k hk; omega
  · rw [e, hc] at hc'; cases hc'; exact ht
  · have := h0.B_le; omega
set_option maxRecDepth 100000 in
set_option maxHeartbeats 2000000 in
theorem rkind_bad (h : Ry B ts w rb tv sv E o i qs) (k : Int) (hb : ¬ E = 0 ∨ (E = 0 ∧ isK ts i k = false)) : Calls Try.prog 134 #[dp rb, .int .i64 k] w fun e w' => e = .returned (TkV ⟨0, [], 0, 0⟩) ∧ Ry B ts w' rb tv sv (erS E 120) o i qs ∧ Kp (fun k => k = rb) w w' := by
  have HB0 : Hid (Below w.heap.size w (w.alloc (.cells zTk 86))) := (Below.refl _ _).alloc (Nat.le_refl _) _
  have HZ := hid (alloc_block w (.cells zTk 86))
  have HQ := hid (h.on HB0.out)
  have k0 := HQ.out.cell
  have HR0 := hid h
  have hne : ¬ rb = w.heap.size := by have := h.lt; omega
  have hil := h.il
  have htl := h.tl
  have HT := hid HQ.out.tok
  obtain ⟨p, cap, rfl, hc1, hc2⟩ := h.tok.form
  unfold maxLen at hc2
  have i0 : (0 : Int) ≤ i := by omega
  generalize hW : w.alloc (.cells zTk 86) = w1 at *
  have HW := hid hW
  clear h hW
  have fin : ∀ (nq : Nat), Hid (Calls Try.prog 89 #[dp rb] (w1.drewN nq) fun e w' => e = .returned (.tuple #[]) ∧ Ry B ts w' rb (.slice p ts.length cap) sv (erS E 120) o i qs ∧ Kp (fun k => k = rb) (w1.drewN nq) w') := fun nq => rfail_any (HQ.out.on (below_drewN (Below.refl _ w1) nq))
  have HF := hid fin
  clear fin
  generalize hln : ts.length = ln at *
  have HLn := hid hln
  clear hln
  rcases hb with hE | ⟨rfl, hk⟩
  · have bE : (E != 0) = true := by simp [hE]
    clear HT hE
    go_enter Try.func134, Try.ntmps134
    go_upto_region 1 with fail
    rw [HW.out]
    go_quiet (fail)
    go_wp2_with (go_at_call 89; refine (HF.out _).out.mono ?_; rintro e w2 ⟨rfl, hq, hk⟩; have HQ2 := hid hq; have HK2 := hid hk; have HZ2 := hid (hk.blk (show (w1.drewN _).heap[w.heap.size]? = some (.cells zTk 86) from HZ.out) (fun e => hne e.symm)); have kz := block_cell HZ2.out; have zz := block_frozen HZ2.out; clear hq hk)
    obtain ⟨a, b⟩ := HR0.out.back HQ2.out ((Kp.of (below_drewN HB0.out _)).trans HK2.out) (kp_set4e w.heap.size _ (.int .i64 0) (.string ⟨#[]⟩) (.int .i64 0) (.int .i64 0)) ⟨_, _, _, HZ2.out, by decide⟩
    exact ret_tok rfl rfl (Bx.set4 HZ2.out _ _ _ _) rfl rfl ⟨rfl, a, b⟩
  · by_cases hi : i < ln
    · obtain ⟨g, og, rfl, hg, hc⟩ := HT.out.at (j := i) (List.getElem?_eq_getElem (by have := HLn.out; omega))
      have hkk : ¬ (ts[i]'(by have := HLn.out; omega)).kind = k := by
        intro e; unfold isK at hk; rw [List.getElem?_eq_getElem (by have := HLn.out; omega)] at hk; simp [e] at hk
      generalize ts[i]'(by have := HLn.out; omega) = t at *
      have e0 : w1.cell? ⟨g, og + i * 4, none⟩ = some (.int .i64 t.kind) := hc 0 _ rfl
      have bk : (t.kind != k) = true := by simp [hkk]
      have iI : (i : Int) < ln := by omega
      have dI : decide ((i : Int) ≥ ln) = false := by simp; omega
      have d2 : decide ((ln : Int) ≤ i) = false := by simp; omega
      clear hc hg HT hk hkk
      go_enter Try.func134, Try.ntmps134
      go_upto_region 1 with fail
      rw [HW.out]
      go_quiet (fail)
      go_wp2_with (go_at_call 89; refine (HF.out _).out.mono ?_; rintro e w2 ⟨rfl, hq, hk⟩; have HQ2 := hid hq; have HK2 := hid hk; have HZ2 := hid (hk.blk (show (w1.drewN _).heap[w.heap.size]? = some (.cells zTk 86) from HZ.out) (fun e => hne e.symm)); have kz := block_cell HZ2.out; have zz := block_frozen HZ2.out; clear hq hk)
      obtain ⟨a, b⟩ := HR0.out.back HQ2.out ((Kp.of (below_drewN HB0.out _)).trans HK2.out) (kp_set4e w.heap.size _ (.int .i64 0) (.string ⟨#[]⟩) (.int .i64 0) (.int .i64 0)) ⟨_, _, _, HZ2.out, by decide⟩
      exact ret_tok rfl rfl (Bx.set4 HZ2.out _ _ _ _) rfl rfl ⟨rfl, a, b⟩
    · have dI : decide ((i : Int) ≥ ln) = true := by simp; omega
      have d2 : decide ((ln : Int) ≤ i) = true := by simp; omega
      clear HT hk
      go_enter Try.func134, Try.ntmps134
      go_upto_region 1 with fail
      rw [HW.out]
      go_quiet (fail)
      go_wp2_with (go_at_call 89; refine (HF.out _).out.mono ?_; rintro e w2 ⟨rfl, hq, hk⟩; have HQ2 := hid hq; have HK2 := hid hk; have HZ2 := hid (hk.blk (show (w1.drewN _).heap[w.heap.size]? = some (.cells zTk 86) from HZ.out) (fun e => hne e.symm)); have kz := block_cell HZ2.out; have zz := block_frozen HZ2.out; clear hq hk)
      obtain ⟨a, b⟩ := HR0.out.back HQ2.out ((Kp.of (below_drewN HB0.out _)).trans HK2.out) (kp_set4e w.heap.size _ (.int .i64 0) (.string ⟨#[]⟩) (.int .i64 0) (.int .i64 0)) ⟨_, _, _, HZ2.out, by decide⟩
      exact ret_tok rfl rfl (Bx.set4 HZ2.out _ _ _ _) rfl rfl ⟨rfl, a, b⟩
set_option maxRecDepth 100000 in
set_option maxHeartbeats 2000000 in
theorem rkind_ok (h : Ry B ts w rb tv sv 0 o i qs) (k : Int) (hk : isK ts i k = true) : Calls Try.prog 134 #[dp rb, .int .i64 k] w fun e w' => e = .returned (TkV (hereS ts i)) ∧ Ry B ts w' rb tv sv 0 o (i + 1) qs ∧ Kp (fun k => k = rb) w w' := by
  have HB0 : Hid (Below w.heap.size w (w.alloc (.cells zTk 86))) := (Below.refl _ _).alloc (Nat.le_refl _) _
  have HZ := hid (alloc_block w (.cells zTk 86))
  have HQ := hid (h.on HB0.out)
  have k0 := HQ.out.cell
  have z0 := HQ.out.frozen
  have HR0 := hid h
  have hne : ¬ rb = w.heap.size := by have := h.lt; omega
  have hi := isK_lt hk
  have HI := hid hi
  have htl := h.tl
  have HH := hid (here_lt hi)
  have HT := hid HQ.out.tok
  obtain ⟨p, cap, rfl, hc1, hc2⟩ := h.tok.form
  unfold maxLen at hc2
  have i0 : (0 : Int) ≤ i := by omega
  have hgb : ∀ g, g < B → ¬ g = rb ∧ ¬ g = w.heap.size := fun g hg => by have := h.bB; have := h.lt; omega
  obtain ⟨g, og, rfl, hg, hc⟩ := HT.out.at (j := i) (List.getElem?_eq_getElem hi)
  have hkk : (ts[i]'hi).kind = k := by
    unfold isK at hk; rw [List.getElem?_eq_getElem hi] at hk; simpa using hk
  generalize hW : w.alloc (.cells zTk 86) = w1 at *
  have HW := hid hW
  clear h hW hk HT
  generalize ts[i] = t at *
  obtain ⟨gr, gz⟩ := hgb g hg
  generalize hln : ts.length = ln at *
  have HLn := hid hln
  have HC := hid hc
  have e0 : w1.cell? ⟨g, og + i * 4, none⟩ = some (.int .i64 t.kind) := hc 0 _ rfl
  have bk : (t.kind != k) = false := by simp [hkk]
  have iI : (i : Int) < ln := by omega
  have dI : decide ((i : Int) ≥ ln) = false := by simp; omega
  have d2 : decide ((ln : Int) ≤ i) = false := by simp; omega
  have d3 : decide (ln ≤ i) = false := by simp; omega
  have e9 : ((i : Int) + 1) - 1 = i := by omega
  clear hc hg hkk hgb hln hi
  go_enter Try.func134, Try.ntmps134
  go_upto_region 1 with fail
  rw [HW.out]
  go_quiet (fail)
  go_upto_region 5 with fail
  have HQ5 := hid ((HQ.out.on (below_drewN (Below.refl _ w1) nq)).next (by rw [HLn.out]; exact HI.out))
  have HK5 := hid ((Kp.of (below_drewN HB0.out nq)).trans (Kp.set (T := fun k => k = rb) (w := w1.drewN nq) (b := rb) (i := 1) rfl (.int .i64 ((i : Int) + 1))))
  have HZ5 := hid ((Kp.set (T := fun k => k = rb) (w := w1.drewN nq) (b := rb) (i := 1) rfl (.int .i64 ((i : Int) + 1))).blk (show (w1.drewN nq).heap[w.heap.size]? = some (.cells zTk 86) from HZ.out) (fun e => hne e.symm))
  have HC5 := hid (CellsAt.kp HC.out ((Kp.of (below_drewN (Below.refl _ w1) nq)).trans (Kp.set (T := fun k => k = rb) (w := w1.drewN nq) (b := rb) (i := 1) rfl (.int .i64 ((i : Int) + 1)))) gr)
  clear e0 k0 z0
  generalize (w1.drewN nq).setCell ⟨rb, 1, none⟩ (.int .i64 ((i : Int) + 1)) = W5 at *
  have k5 := HQ5.out.cell
  simp only [Int.natCast_add, Int.cast_ofNat_Int] at k5
  have e0 : W5.cell? ⟨g, og + i * 4, none⟩ = some (.int .i64 t.kind) := HC5.out 0 _ rfl
  have e1 : W5.cell? ⟨g, og + i * 4 + 1, none⟩ = some (.string (St t.s)) := HC5.out 1 _ rfl
  have e2 : W5.cell? ⟨g, og + i * 4 + 2, none⟩ = some (.int .i64 t.n) := HC5.out 2 _ rfl
  have e3 : W5.cell? ⟨g, og + i * 4 + 3, none⟩ = some (.int .i64 t.at_) := HC5.out 3 _ rfl
  have kz := block_cell HZ5.out
  have zz := block_frozen HZ5.out
  go_region
  go_wp2_with fail
  obtain ⟨a, b⟩ := HR0.out.back (HQ5.out.on (Below.refl _ _).drew) (HK5.out.trans (Kp.drew _ _)) (kp_set4e w.heap.size _ (.int .i64 t.kind) (.string (St t.s)) (.int .i64 t.n) (.int .i64 t.at_)) ⟨_, _, _, HZ5.out, by decide⟩
  exact ret_tok rfl rfl (Bx.set4 (w := W5.drew) HZ5.out _ _ _ _) rfl rfl ⟨by rw [HH.out], a, b⟩
theorem rkind_any (h : Ry B ts w rb tv sv E o i qs) (k : Int) : Calls Try.prog 134 #[dp rb, .int .i64 k] w (Y1 B ts rb tv sv o qs w vTok (lf E i (takeS ts k i))) := by
  by_cases hE : E = 0
  · subst hE
    cases hk : isK ts i k with
    | true =>
      refine (rkind_ok h k hk).mono ?_
      rintro e w1 ⟨rfl, hr, hkp⟩
      exact ⟨hkp, _, _, 0, i + 1, rfl, rfl, hr, .inr ⟨by simp [lf, takeS, hk], rfl⟩⟩
    | false =>
      refine (rkind_bad h k (.inr ⟨rfl, hk⟩)).mono ?_
      rintro e w1 ⟨rfl, hr, hkp⟩
      exact ⟨hkp, ⟨0, [], 0, 0⟩, _, _, i, rfl, rfl, hr, by unfold takeS; rw [hk]; exact erS_lf⟩
  · refine (rkind_bad h k (.inl hE)).mono ?_
    rintro e w1 ⟨rfl, hr, hkp⟩
    have he : erS E 120 = E := if_neg hE
    rw [he] at hr
    exact ⟨hkp, ⟨0, [], 0, 0⟩, _, E, i, rfl, rfl, hr, lf_bad hE⟩
end
end Go.Proofs.Ytcidijjbcebcbaa
