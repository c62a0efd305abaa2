/-
  The reference's reader: its error is a number that it keeps.
  The reference's reader: a word, a token, one more that is open.
  The reference's reader lays a node.
  The reference's reader takes a token of a kind.
  The reference's reader takes a value.
  The reference's reader takes names.
  The reference's reader: what and, what or joins.
  The reference's reader: not, with an error, and ahead of a not.
  The reference's reader: not, ahead of a not.
-/
import Derived.Test.YtomnjckbgmbgmaaGreatDoorPKl
import Derived.Test.YtomnjckbgmbgmaaGreatDoorQPRo
import Derived.Deep.QuietTactic
import Derived.BigQuiet
namespace Go.Proofs.YtomnjckbgmbgmaaGreatDoor
open Go.RowKit Go.Joins

theorem below_drewN {B : Nat} {a w : World} (h : Below B a w) (n : Nat) : Below B a (w.drewN n) := ⟨h.os, h.tape, h.output, h.size, h.block⟩
/- The reader: its tokens (below B), the next one's number, its nodes, its error, how many are open. -/
structure Ry (B : Nat) (ts : List Tp) (w : World) (rb : Nat) (tv sv : Value) (E : Int) (o i : Nat) (qs : List Nd) : Prop where
  bB : B ≤ rb
  blk : w.heap[rb]? = some (.cells #[tv, .int .i64 (i : Int), sv, .int .i64 E, .int .i64 (o : Int)] 62 (0, 0))
  own : Own Nd.cells 19 52 B w sv qs
  each : ∀ q ∈ qs, NdIn B w q
  tok : SlAt (fun b => b < B) Tp.cells 4 w tv ts
  il : i ≤ ts.length
  tl : ts.length ≤ 1024
  ql : qs.length ≤ i
  ol : o ≤ 17
/- What a reading comes to, as the reader keeps it. -/
def Cm {α : Type} (r : Rs α) (x : α) (i : Nat) (E : Int) : Prop := (r = .bad i E ∧ ¬ E = 0) ∨ (r = .ok x i ∧ E = 0)
def lf {α : Type} (E : Int) (i : Nat) (r : Rs α) : Rs α := if E = 0 then r else .bad i E
theorem Cm.and {α β : Type} {r : Rs α} {f : α → Nat → Rs β} {x : α} {y : β} {i j : Nat} {E E' : Int} (h : Cm r x i E) (h2 : Cm (lf E i (f x i)) y j E') : Cm (r.and f) y j E' := by
  rcases h with ⟨h, hE⟩ | ⟨h, hE⟩
  · rw [h]; unfold lf at h2; rw [if_neg hE] at h2; exact h2
  · rw [h]; unfold lf at h2; rw [if_pos hE] at h2; exact h2
theorem Cm.lfand {α β : Type} {r : Rs α} {f : α → Nat → Rs β} {x : α} {y : β} {i0 i j : Nat} {E0 E E' : Int} (h : Cm (lf E0 i0 r) x i E) (h2 : Cm (lf E i (f x i)) y j E') : Cm (lf E0 i0 (r.and f)) y j E' := by
  unfold lf at h ⊢
  by_cases hE : E0 = 0
  · rw [if_pos hE] at h ⊢; exact h.and h2
  · rw [if_neg hE] at h ⊢
    rcases h with ⟨h, hE⟩ | ⟨h, hE⟩
    · cases h; unfold lf at h2; rw [if_neg hE] at h2; exact h2
    · cases h
theorem lf_bad {α : Type} {E : Int} {i : Nat} {r : Rs α} {x : α} (hE : ¬ E = 0) : Cm (lf E i r) x i E := .inl ⟨if_neg hE, hE⟩
section
variable {B : Nat} {ts : List Tp} {w w' : World} {rb : Nat} {tv sv : Value} {E : Int} {o i : Nat} {qs : List Nd}
theorem Ry.T_ge (h : Ry B ts w rb tv sv E o i qs) : ∀ k, Tq rb sv k → B ≤ k := by
  rintro k (rfl | hk)
  · exact h.bB
  · exact (h.own.at hk).1
theorem Ry.T_lt (h : Ry B ts w rb tv sv E o i qs) : ∀ k, Tq rb sv k → k < w.heap.size := by
  rintro k (rfl | hk)
  · exact lt_of_block h.blk
  · exact (h.own.at hk).2
theorem Ry.ne (h : Ry B ts w rb tv sv E o i qs) : ∀ g, sv.ownBlock = some g → g ≠ rb := fun g hg e => by
  obtain ⟨c, fz, hc⟩ := h.own.kind hg; rw [e, h.blk] at hc; cases hc
theorem Ry.tk (h : Ry B ts w rb tv sv E o i qs) : TK w (Tq rb sv) := by
  rintro k (rfl | hk) c t fz hc
  · rw [h.blk] at hc; cases hc; decide
  · obtain ⟨c', fz', hc'⟩ := h.own.kind hk; rw [hc'] at hc; cases hc; decide
theorem Ry.tkr (h : Ry B ts w rb tv sv E o i qs) : TK w (fun k => k = rb) := fun k e => h.tk k (.inl e)
theorem Ry.kp {T : Nat → Prop} (h : Ry B ts w rb tv sv E o i qs) (hk : Kp T w w') (ht : ∀ k, Tq rb sv k → ¬ T k) (hT : TK w T) (hB : ∀ k, T k → B ≤ k) : Ry B ts w' rb tv sv E o i qs :=
  ⟨h.bB, hk.blk h.blk (ht rb (.inl rfl)), h.own.kp hk (fun g hg => ht g (.inr hg)), fun q hq => (h.each q hq).kp hk hT, h.tok.kp hk (fun b hb hTb => by have := hB b hTb; omega), h.il, h.tl, h.ql, h.ol⟩
theorem Ry.on (h : Ry B ts w rb tv sv E o i qs) (hb : Below w.heap.size w w') : Ry B ts w' rb tv sv E o i qs := h.kp (T := fun _ => False) (Kp.of hb) (fun _ _ => id) (TK.no w) (fun _ h => h.elim)
theorem Ry.cell (h : Ry B ts w rb tv sv E o i qs) : ∀ j, w.cell? ⟨rb, j, none⟩ = #[tv, .int .i64 (i : Int), sv, .int .i64 E, .int .i64 (o : Int)][j]? := block_cell h.blk
theorem Ry.frozen (h : Ry B ts w rb tv sv E o i qs) : ∀ j, w.frozen? ⟨rb, j, none⟩ = false := block_frozen h.blk
theorem Ry.lt (h : Ry B ts w rb tv sv E o i qs) : rb < w.heap.size := lt_of_block h.blk
theorem Ry.put (h : Ry B ts w rb tv sv E o i qs) (hk : Kp (fun k => k = rb) w w') {E' : Int} {i' o' : Nat} (hb : w'.heap[rb]? = some (.cells #[tv, .int .i64 (i' : Int), sv, .int .i64 E', .int .i64 (o' : Int)] 62 (0, 0))) (hi : i' ≤ ts.length) (hq : qs.length ≤ i') (ho : o' ≤ 17) : Ry B ts w' rb tv sv E' o' i' qs :=
  ⟨h.bB, hb, h.own.kp hk (fun g hg e => h.ne g hg e), fun q hq => (h.each q hq).kp hk h.tkr, h.tok.kp hk (fun b hb e => by have := h.bB; omega), hi, h.tl, hq, ho⟩
theorem Ry.next (h : Ry B ts w rb tv sv E o i qs) (hi : i < ts.length) : Ry B ts (w.setCell ⟨rb, 1, none⟩ (.int .i64 ((i : Int) + 1))) rb tv sv E o (i + 1) qs :=
  h.put (Kp.set (T := fun k => k = rb) rfl _) (by have := block_set h.blk 1 (.int .i64 ((i : Int) + 1)); simpa using this) hi (by have := h.ql; omega) h.ol
theorem Ry.err (h : Ry B ts w rb tv sv E o i qs) (c : Int) : Ry B ts (w.setCell ⟨rb, 3, none⟩ (.int .i64 c)) rb tv sv c o i qs :=
  h.put (Kp.set (T := fun k => k = rb) rfl _) (by have := block_set h.blk 3 (.int .i64 c); simpa using this) h.il h.ql h.ol
theorem Ry.more (h : Ry B ts w rb tv sv E o i qs) (ho : o ≤ 16) : Ry B ts (w.setCell ⟨rb, 4, none⟩ (.int .i64 ((o : Int) + 1))) rb tv sv E (o + 1) i qs :=
  h.put (Kp.set (T := fun k => k = rb) rfl _) (by have := block_set h.blk 4 (.int .i64 ((o : Int) + 1)); simpa using this) h.il h.ql (by omega)
theorem Ry.less {o : Nat} (h : Ry B ts w rb tv sv E (o + 1) i qs) : Ry B ts (w.setCell ⟨rb, 4, none⟩ (.int .i64 (o : Int))) rb tv sv E o i qs :=
  h.put (Kp.set (T := fun k => k = rb) rfl _) (by have := block_set h.blk 4 (.int .i64 (o : Int)); simpa using this) h.il h.ql (by have := h.ol; omega)
set_option maxRecDepth 100000 in
set_option maxHeartbeats 1000000 in
theorem ris_any (h : Ry B ts w rb tv sv E o i qs) (x : List UInt8) : Calls Tryz.prog 93 #[dp rb, .string (St x)] w fun e w' => e = .returned (.bool (decide (E = 0) && isW ts i x)) ∧ Below w.heap.size w w' := by
  have k0 := h.cell
  have HT := hid h.tok
  have hil := h.il
  have htl := h.tl
  obtain ⟨p, cap, rfl, hc1, hc2⟩ := h.tok.form
  unfold maxLen at hc2
  have i0 : (0 : Int) ≤ i := by omega
  clear h
  by_cases hE : E = 0
  · subst hE
    generalize hln : ts.length = ln at *
    have HLn := hid hln
    clear hln
    by_cases hi : i < ln
    · have HI := hid (isW_here ts i x)
      have HH := hid (here_lt (ts := ts) (i := i) (by have := HLn.out; omega))
      obtain ⟨g, og, rfl, hg, hc⟩ := HT.out.at (j := i) (List.getElem?_eq_getElem (by have := HLn.out; omega))
      rw [HH.out] at HI
      generalize ts[i]'(by have := HLn.out; omega) = t at *
      have e0 : w.cell? ⟨g, og + i * 4, none⟩ = some (.int .i64 t.kind) := hc 0 _ rfl
      have e1 : w.cell? ⟨g, og + i * 4 + 1, none⟩ = some (.string (St t.s)) := hc 1 _ rfl
      have hs := St_dec t.s x
      have b1 : (t.kind == 1) = decide (t.kind = 1) := by rw [Bool.eq_iff_iff]; simp
      have b4 : (t.kind == 4) = decide (t.kind = 4) := by rw [Bool.eq_iff_iff]; simp
      have iI : (i : Int) < ln := by omega
      have dI : decide ((i : Int) < ln) = true := by simpa using iI
      clear hc hg HT HH
      generalize decide (t.kind = 1) = k1 at *
      generalize decide (t.kind = 4) = k4 at *
      generalize decide (t.s = x) = kx at *
      generalize isW ts i x = r at *
      cases k1 <;> cases k4 <;> cases kx
      all_goals
        (go_enter Tryz.func93, Tryz.ntmps93
         go_wp2_with fail
         go_quiet (fail)
         go_wp2
         go_ret
         exact ⟨by rw [HI.out]; rfl, below_drewN (Below.refl _ _) _⟩)
    · have HI : Hid (isW ts i x = false) := by
        show _ = _; cases hw : isW ts i x with
        | false => rfl
        | true => have := isW_lt hw; have := HLn.out; omega
      have iI : ¬ (i : Int) < ln := by omega
      have dI : decide ((i : Int) < ln) = false := by simpa using iI
      clear HT
      go_enter Tryz.func93, Tryz.ntmps93
      go_wp2_with fail
      go_quiet (fail)
      go_wp2
      go_ret
      exact ⟨by rw [HI.out]; rfl, below_drewN (Below.refl _ _) _⟩
  · have bE : (E == 0) = false := by simp [hE]
    have HE := hid hE
    clear HT hE
    go_enter Tryz.func93, Tryz.ntmps93
    go_wp2_with fail
    go_quiet (fail)
    go_wp2
    go_ret
    exact ⟨by have := HE.out; simp [this], below_drewN (Below.refl _ _) _⟩
end
end Go.Proofs.YtomnjckbgmbgmaaGreatDoor
namespace Go.Proofs.YtomnjckbgmbgmaaGreatDoor
open Go.RowKit Go.Joins

/- What a function that lays no nodes comes to. -/
def Y1 {α : Type} (B : Nat) (ts : List Tp) (rb : Nat) (tv sv : Value) (o : Nat) (qs : List Nd) (w : World) (val : World → α → Value → Prop) (r : Rs α) (e : Ending) (w' : World) : Prop :=
  Kp (fun k => k = rb) w w' ∧ ∃ x v E i, e = .returned v ∧ val w' x v ∧ Ry B ts w' rb tv sv E o i qs ∧ Cm r x i E
def isE (E : Int) (ts : List Tp) (i : Nat) (x : List UInt8) : Bool := decide (E = 0) && isW ts i x
theorem isE_lt {E : Int} {ts : List Tp} {i : Nat} {x : List UInt8} (h : isE E ts i x = true) : i < ts.length := by
  unfold isE at h; rw [Bool.and_eq_true] at h; exact isW_lt h.2
theorem isE_E {E : Int} {ts : List Tp} {i : Nat} {x : List UInt8} (h : isE E ts i x = true) : E = 0 := by
  unfold isE at h; rw [Bool.and_eq_true] at h; simpa using h.1
theorem isE_W {E : Int} {ts : List Tp} {i : Nat} {x : List UInt8} (h : isE E ts i x = true) : isW ts i x = true := by
  unfold isE at h; rw [Bool.and_eq_true] at h; exact h.2
section
variable {B : Nat} {ts : List Tp} {w w' : World} {rb : Nat} {tv sv : Value} {E : Int} {o i : Nat} {qs : List Nd}
set_option maxRecDepth 100000 in
set_option maxHeartbeats 1000000 in
theorem rsees_any (h : Ry B ts w rb tv sv E o i qs) (x : List UInt8) : Calls Tryz.prog 56 #[dp rb, .string (St x)] w fun e w' => e = .returned (.bool (isE E ts i x)) ∧ Ry B ts w' rb tv sv E o (if isE E ts i x then i + 1 else i) qs ∧ Kp (fun k => k = rb) w w' := by
  have HQ := hid h
  have HS := hid (ris_any h x)
  have hil : (i : Int) ≤ 1024 := by have := h.il; have := h.tl; omega
  have hi0 : (0 : Int) ≤ i := by omega
  clear h
  change Hid (Calls Tryz.prog 93 #[dp rb, .string (St x)] w fun e w' => e = .returned (.bool (isE E ts i x)) ∧ Below w.heap.size w w') at HS
  cases hw : isE E ts i x with
  | true =>
    have HI := hid (isE_lt hw)
    rw [hw] at HS
    clear hw
    go_enter Tryz.func56, Tryz.ntmps56
    go_wp2_with (go_at_call 93; refine HS.out.mono ?_; rintro e w1 ⟨rfl, hb⟩; have HB := hid hb; have HQ1 := hid (HQ.out.on hb); have k1 := HQ1.out.cell; have z1 := HQ1.out.frozen; clear hb)
    go_ret
    exact ⟨rfl, HQ1.out.next HI.out, (Kp.of HB.out).trans (Kp.set (T := fun k => k = rb) rfl _)⟩
  | false =>
    rw [hw] at HS
    clear hw
    go_enter Tryz.func56, Tryz.ntmps56
    go_wp2_with (go_at_call 93; refine HS.out.mono ?_; rintro e w1 ⟨rfl, hb⟩; have HB := hid hb; have HQ1 := hid (HQ.out.on hb); clear hb)
    go_ret
    exact ⟨rfl, HQ1.out, Kp.of HB.out⟩
def erS (E c : Int) : Int := if E = 0 then c else E
theorem erS_ne {E c : Int} (hc : ¬ c = 0) : ¬ erS E c = 0 := by unfold erS; split <;> assumption
theorem erS_lf {α : Type} {E : Int} {i : Nat} {x : α} : Cm (lf E i (.bad i 120 : Rs α)) x i (erS E 120) := by
  by_cases hE : E = 0
  · subst hE; exact .inl ⟨rfl, by decide⟩
  · have : erS E 120 = E := if_neg hE
    rw [this]; exact lf_bad hE
set_option maxRecDepth 100000 in
set_option maxHeartbeats 1000000 in
theorem rfail_any (h : Ry B ts w rb tv sv E o i qs) : Calls Tryz.prog 59 #[dp rb] w fun e w' => e = .returned (.tuple #[]) ∧ Ry B ts w' rb tv sv (erS E 120) o i qs ∧ Kp (fun k => k = rb) w w' := by
  have HQ := hid h
  have k0 := h.cell
  have z0 := h.frozen
  clear h
  by_cases hE : E = 0
  · subst hE
    go_enter Tryz.func59, Tryz.ntmps59
    go_wp2_with fail
    go_end0
    exact ⟨rfl, HQ.out.err 120, Kp.set (T := fun k => k = rb) rfl _⟩
  · have bE : (E == 0) = false := by simp [hE]
    have HE : Hid (erS E 120 = E) := if_neg hE
    clear hE
    go_enter Tryz.func59, Tryz.ntmps59
    go_wp2_with fail
    go_end0
    exact ⟨rfl, by rw [HE.out]; exact HQ.out, Kp.refl _ _⟩
set_option maxRecDepth 100000 in
set_option maxHeartbeats 1000000 in
theorem rwants_any (h : Ry B ts w rb tv sv E o i qs) (x : List UInt8) : Calls Tryz.prog 54 #[dp rb, .string (St x)] w (Y1 B ts rb tv sv o qs w vNone (lf E i (wantS ts x i))) := by
  have HS := hid (rsees_any h x)
  clear h
  cases hw : isE E ts i x with
  | true =>
    have HC : Hid (Cm (lf E i (wantS ts x i)) () (i + 1) 0) := .inr ⟨by rw [isE_E hw]; unfold lf wantS; rw [if_pos rfl, isE_W hw]; rfl, rfl⟩
    have HE := hid (isE_E hw)
    rw [hw] at HS
    clear hw
    go_enter Tryz.func54, Tryz.ntmps54
    go_wp2_with (go_at_call 56; refine HS.out.mono ?_; rintro e w1 ⟨rfl, hq, hk⟩; have HQ1 := hid hq; have HK1 := hid hk; clear hq hk)
    go_end0
    exact ⟨HK1.out, (), _, 0, i + 1, rfl, rfl, by have := HQ1.out; rw [HE.out] at this; exact this, HC.out⟩
  | false =>
    have HC : Hid (Cm (lf E i (wantS ts x i)) () i (erS E 120)) := by
      by_cases hE : E = 0
      · subst hE
        have hf : isW ts i x = false := by simpa [isE] using hw
        show Cm _ _ _ _
        unfold wantS; rw [hf]; exact erS_lf
      · have : erS E 120 = E := if_neg hE
        rw [this]; exact lf_bad hE
    rw [hw] at HS
    clear hw
    go_enter Tryz.func54, Tryz.ntmps54
    go_wp2_with (first
      | (go_at_call 56; refine HS.out.mono ?_; rintro e w1 ⟨rfl, hq, hk⟩; have HQ1 := hid hq; have HK1 := hid hk; clear hq hk)
      | (go_at_call 59; refine (rfail_any HQ1.out).mono ?_; rintro e w2 ⟨rfl, hq, hk⟩; have HQ2 := hid hq; have HK2 := hid hk; clear hq hk))
    go_end0
    exact ⟨HK1.out.trans HK2.out, (), _, _, i, rfl, rfl, HQ2.out, HC.out⟩
/- One more is open, behind the sign that stood there. -/
def DpP (B : Nat) (ts : List Tp) (rb : Nat) (tv sv : Value) (E : Int) (o i : Nat) (qs : List Nd) (w : World) (e : Ending) (w' : World) : Prop :=
  e = .returned (.tuple #[]) ∧ Kp (fun k => k = rb) w w' ∧ ((¬ E = 0 ∧ Ry B ts w' rb tv sv E (o + 1) i qs) ∨ (E = 0 ∧ 16 ≤ o ∧ Ry B ts w' rb tv sv 2 (o + 1) (i - 1) qs) ∨ (E = 0 ∧ o < 16 ∧ Ry B ts w' rb tv sv 0 (o + 1) i qs))
theorem Ry.back1 (h : Ry B ts w rb tv sv E o i qs) (hi : qs.length + 1 ≤ i) (ho : o ≤ 16) : Ry B ts (((w.setCell ⟨rb, 3, none⟩ (.int .i64 2)).setCell ⟨rb, 1, none⟩ (.int .i64 ((i : Int) - 1))).setCell ⟨rb, 4, none⟩ (.int .i64 ((o : Int) + 1))) rb tv sv 2 (o + 1) (i - 1) qs := by
  have e1 : ((i - 1 : Nat) : Int) = (i : Int) - 1 := by omega
  refine h.put (((Kp.set (T := fun k => k = rb) rfl _).trans (Kp.set (T := fun k => k = rb) rfl _)).trans (Kp.set (T := fun k => k = rb) rfl _)) ?_ (by have := h.il; omega) (by omega) (by omega)
  have := block_set (block_set (block_set h.blk 3 (.int .i64 2)) 1 (.int .i64 ((i : Int) - 1))) 4 (.int .i64 ((o : Int) + 1))
  rw [e1]; simpa using this
set_option maxRecDepth 100000 in
set_option maxHeartbeats 1000000 in
theorem rdeeper_any (h : Ry B ts w rb tv sv E o i qs) (hl : qs.length + 1 ≤ i) (ho : o ≤ 16) : Calls Tryz.prog 96 #[dp rb] w (DpP B ts rb tv sv E o i qs w) := by
  have HQ := hid h
  have HL := hid hl
  have HO := hid ho
  have k0 := h.cell
  have z0 := h.frozen
  have hi1 : (1 : Int) ≤ i := by omega
  have hil : (i : Int) ≤ 1024 := by have := h.il; have := h.tl; omega
  have ho0 : (0 : Int) ≤ o := by omega
  have ho2 : (o : Int) ≤ 16 := by omega
  clear h hl ho
  by_cases hE : E = 0
  · subst hE
    by_cases hd : 16 ≤ o
    · have dI : decide ((o : Int) ≥ 16) = true := by simp; omega
      have d2 : decide ((16 : Int) ≤ o) = true := by simp; omega
      go_enter Tryz.func96, Tryz.ntmps96
      go_wp2_with fail
      go_end0
      exact ⟨rfl, ((Kp.set (T := fun k => k = rb) rfl _).trans (Kp.set (T := fun k => k = rb) rfl _)).trans (Kp.set (T := fun k => k = rb) rfl _), .inr (.inl ⟨rfl, hd, HQ.out.back1 HL.out HO.out⟩)⟩
    · have dI : decide ((o : Int) ≥ 16) = false := by simp; omega
      have d2 : decide ((16 : Int) ≤ o) = false := by simp; omega
      go_enter Tryz.func96, Tryz.ntmps96
      go_wp2_with fail
      go_end0
      exact ⟨rfl, Kp.set (T := fun k => k = rb) rfl _, .inr (.inr ⟨rfl, by omega, HQ.out.more HO.out⟩)⟩
  · have bE : (E == 0) = false := by simp [hE]
    have HE := hid hE
    clear hE
    go_enter Tryz.func96, Tryz.ntmps96
    go_wp2_with fail
    go_end0
    exact ⟨rfl, Kp.set (T := fun k => k = rb) rfl _, .inl ⟨HE.out, HQ.out.more HO.out⟩⟩
end
end Go.Proofs.YtomnjckbgmbgmaaGreatDoor
namespace Go.Proofs.YtomnjckbgmbgmaaGreatDoor
open Go.RowKit Go.Joins

section
variable {B : Nat} {ts : List Tp} {w w' : World} {rb : Nat} {tv sv : Value} {E : Int} {o i : Nat} {qs : List Nd}
theorem Ry.B_le (h : Ry B ts w rb tv sv E o i qs) : B ≤ w.heap.size := by have := h.bB; have := h.lt; omega
theorem rlay_app {W w3 : World} {v' : Value} {q : Nd} (h : Ry B ts w rb tv sv 0 o i qs) (hb : Below w.heap.size w W) (hown : Own Nd.cells 19 52 B w3 v' (qs ++ [q])) (hgr : W.grownBy w3 sv.ownBlock) (hat : At W sv v') (hq : NdIn B w q) (hl : qs.length + 1 ≤ i) :
    w3.heap[rb]? = some (.cells #[tv, .int .i64 (i : Int), sv, .int .i64 0, .int .i64 (o : Int)] 62 (0, 0)) ∧ Ry B ts (w3.setCell ⟨rb, 2, none⟩ v') rb tv v' 0 o i (qs ++ [q]) ∧ At w sv v' ∧ Kp (Tq rb sv) w (w3.setCell ⟨rb, 2, none⟩ v') := by
  have h2 := h.on hb
  have k3 : Kp (fun k => sv.ownBlock = some k) W w3 := Kp.grown hgr (fun k e => e)
  have c1 := k3.blk h2.blk (fun e => h.ne _ e rfl)
  have ks : Kp (fun k => k = rb) w3 (w3.setCell ⟨rb, 2, none⟩ v') := Kp.set (T := fun k => k = rb) rfl _
  have hall : Kp (Tq rb sv) w (w3.setCell ⟨rb, 2, none⟩ v') := ((Kp.of hb).trans' k3 (fun i _ e => .inr e)).trans' ks (fun i _ e => .inl e)
  have ho := hown.kp ks (fun k e e2 => by subst e2; obtain ⟨c, fz, hc⟩ := hown.kind e; rw [c1] at hc; cases hc)
  refine ⟨c1, ⟨h.bB, ?_, ho, ?_, ?_, h.il, h.tl, by simp; omega, h.ol⟩, ?_, hall⟩
  · have := block_set c1 2 v'; simpa using this
  · intro x hx
    rcases List.mem_append.1 hx with hx | hx
    · exact (h.each x hx).kp hall h.tk
    · simp at hx; subst hx; exact hq.kp hall h.tk
  · exact h.tok.kp hall (fun b hb hT => by have := h.T_ge b hT; omega)
  · exact fun k hk => (hat k hk).imp id (fun e => Nat.le_trans hb.size e)
/- What a row of nodes is after lay. -/
def YyP (B : Nat) (ts : List Tp) (rb : Nat) (tv sv : Value) (o i : Nat) (qs : List Nd) (w : World) (q : Nd) (e : Ending) (w' : World) : Prop :=
  e = .returned (.int .i64 (qs.length : Int)) ∧ ∃ sv', Ry B ts w' rb tv sv' 0 o i (qs ++ [q]) ∧ At w sv sv' ∧ Kp (Tq rb sv) w w'
set_option maxRecDepth 100000 in
set_option maxHeartbeats 4000000 in
theorem rlay_ok (h : Ry B ts w rb tv sv 0 o i qs) {q : Nd} (hq : NdIn B w q) (hl : qs.length + 1 ≤ i) : Calls Tryz.prog 57 #[dp rb, .agg q.cells.toArray] w (YyP B ts rb tv sv o i qs w q) := by
  obtain ⟨p, c, rfl⟩ := h.own.form
  have HK0 := hid h
  have HB : Hid (Below w.heap.size w (w.alloc (.cells q.cells.toArray 52 (0, 0)))) := (Below.refl _ _).alloc (Nat.le_refl _) _
  have HK := hid (h.on HB.out)
  have HQn := hid hq
  have HAll := hid hq.all
  have HLl := hid hl
  have hS0 : S6 w.heap.size q.cells.toArray (w.alloc (.cells q.cells.toArray 52 (0, 0))) := alloc_block w _
  have k0 := HK.out.cell
  have HLq : Hid (w.heap.size < (w.alloc (.cells q.cells.toArray 52 (0, 0))).heap.size) := by show _ < _; simp
  have hq1024 : (qs.length : Int) ≤ 1024 := by have := h.ql; have := h.il; have := h.tl; omega
  generalize hW : w.alloc (.cells q.cells.toArray 52 (0, 0)) = w1 at *
  have HW := hid hW
  have HSb := hid hS0
  clear h hW hq hl
  generalize hln : qs.length = ln at *
  have HLn := hid hln
  clear hln
  have HNb : Hid (w.heap.size ≠ rb) := fun e1 => by have := lt_of_block HK0.out.blk; omega
  go_enter Tryz.func57, Tryz.ntmps57
  go_upto_region 1 with fail
  rw [HW.out]
  go_upto_region 2 with fail
  refine wp_region_held_drew (S := S6 w.heap.size q.cells.toArray) (by kernel_rfl) hS0 (fun hT => ?_)
  refine wpAnyH_take (i := 0) (v := ?_) rfl (by kernel_rfl) (by kernel_rfl) (by kernel_rfl) (fun _ _ _ h => h) (Or.inl ⟨by rfl, ?_⟩) hT ?_
  rotate_left
  · intro w hSw
    go_simp
    try (with_reducible rfl)
  try go_frame
  refine wpAnyH_take (i := 1) (v := ?_) rfl (by kernel_rfl) (by kernel_rfl) (by kernel_rfl) (fun _ _ _ h => h) (Or.inl ⟨by rfl, ?_⟩) hT ?_
  rotate_left
  · intro w hSw
    go_simp
    try (with_reducible rfl)
  try go_frame
  refine wpAnyH_take (i := 2) (v := ?_) rfl (by kernel_rfl) (by kernel_rfl) (by kernel_rfl) (fun _ _ _ h => h) (Or.inl ⟨by rfl, ?_⟩) hT ?_
  rotate_left
  · intro w hSw
    go_simp
    try (with_reducible rfl)
  try go_frame
  refine wpAnyH_take (i := 3) (v := ?_) rfl (by kernel_rfl) (by kernel_rfl) (by kernel_rfl) (fun _ _ _ h => h) (Or.inl ⟨by rfl, ?_⟩) hT ?_
  rotate_left
  · intro w hSw
    go_simp
    try (with_reducible rfl)
  try go_frame
  refine wpAnyH_take (i := 5) (v := .agg q.cells.toArray) rfl (by kernel_rfl) (by kernel_rfl) (by kernel_rfl) (fun _ _ _ h => h) (yieldsIf_load_mid (by rfl) 52 (.tmp 3) rfl w.heap.size 0 rfl q.cells _ (fun _ h => s6_range h) Tryz.underlying52 rfl size_node) hT ?_
  try go_frame
  have HKc : Hid (Ry B ts w1.drew rb tv (.slice p ln c) 0 o i qs) := HK.out.on (Below.refl _ _).drew
  have HBw : Hid (Below w.heap.size w w1.drew) := HB.out.drew
  have HLc : Hid (w.heap.size < w1.drew.heap.size) := HLq.out
  generalize w1.drew = W2 at *
  clear k0 hS0
  refine wpAnyH_ready (rs := [4, 6]) (by kernel_rfl) (by simp) ?_
  refine AllReadyH.cons rfl (fun K hK => ?_) (AllReadyH.cons rfl (fun K hK => ?_) AllReadyH.nil)
  · have c1 : W2.cell? ⟨rb, 2, none⟩ = some (.slice p ln c) := block_cell HKc.out.blk 2
    go_simp
    refine hK.out _ _ hT (fun hT => ?_)
    clear hK c1
    try go_frame
    refine wpAnyH_ready (rs := [6]) (by kernel_rfl) (by simp) ?_
    refine AllReadyH.cons rfl (fun K hK => ?_) AllReadyH.nil
    refine step_bs (q := q) rfl (.tmp 15) rfl rfl ?_
    have HG3 : Hid ((W2.alloc (.cells ([q].flatMap Nd.cells).toArray 52)).heap[W2.heap.size]? = some (.cells ([q].flatMap Nd.cells).toArray 52)) := alloc_block _ _
    have HBa : Hid (Below W2.heap.size W2 (W2.alloc (.cells ([q].flatMap Nd.cells).toArray 52))) := (Below.refl _ _).alloc (Nat.le_refl _) _
    have hTa : S6 w.heap.size q.cells.toArray (W2.alloc (.cells ([q].flatMap Nd.cells).toArray 52)) := block_on hT HBa.out
    refine hK.out _ _ hTa (fun _ => ?_)
    clear hK hT
    have hT := hTa
    clear hTa
    try go_frame
    replace HKc := hid (HKc.out.on HBa.out)
    replace HBw := hid (HBw.out.trans (HBa.out.mono HBw.out.size))
    replace HLc := hid (Nat.lt_of_lt_of_le HLc.out HBa.out.size)
    clear HBa
    obtain ⟨W3, hW3⟩ : ∃ V, W2.alloc (.cells ([q].flatMap Nd.cells).toArray 52) = V := ⟨_, rfl⟩
    obtain ⟨g3, hg3⟩ : ∃ g, W2.heap.size = g := ⟨_, rfl⟩
    rw [hW3] at HG3 hT HKc HBw HLc
    rw [hg3] at HG3
    change wpAnyH _ _ _ _ _ _ _ _ (W2.alloc (.cells ([q].flatMap Nd.cells).toArray 52))
    rw [hW3, hg3]
    clear hW3 hg3
    refine wpAnyH_ready (rs := [7]) (by kernel_rfl) (by simp) ?_
    refine AllReadyH.cons rfl (fun K hK => ?_) AllReadyH.nil
    refine step_appP (xs := qs) (ys := [q]) (v := .slice p ln c) (u := .slice (some ⟨g3, 0, none⟩) 1 1) elem_node nd_len (fun y hy => by simp at hy; subst hy; exact HQn.out.one) rfl (.tmp 14) (.tmp 16) rfl (by simp [Act.eval]) (by simp [Act.eval]) (B := B) HKc.out.own (Own.sl (Own.blk (e := 52) (B := 0) (xs := [q]) nd_len (Nat.zero_le _) HG3.out (by unfold maxLen; simp)) nd_len) (by simp) (by rw [HLn.out]; simp; omega) (by omega) (Nat.le_trans HK0.out.B_le HBw.out.size) ?_
    intro v' w3 hown hgr hat
    obtain ⟨hc1, hlp, hAt, hKp⟩ := rlay_app HK0.out HBw.out hown hgr hat HQn.out (by rw [HLn.out]; exact HLl.out)
    have hT3 : S6 w.heap.size q.cells.toArray w3 := (hgr.block _ HLc.out (fun e1 => by have h1 : w.heap.size < w.heap.size := (HK0.out.own.at e1.symm).2; omega)).trans hT
    obtain ⟨pv, cv, rfl⟩ := hown.form
    have k3 : w3.cell? ⟨rb, 2, none⟩ = some (.slice p ln c) := block_cell hc1 2
    have f3 := block_frozen hc1 2
    have HLP := hid hlp
    have HAt := hid hAt
    have HKp := hid hKp
    have k5 := hlp.cell
    clear hlp hown hgr hat hT hAt hKp
    simp only [List.length_append, List.length_cons, List.length_nil, Nat.zero_add, HLn.out] at HLP HAt HKp k5 ⊢
    refine hK.out _ _ hT3 (fun hT => ?_)
    clear hK
    try go_frame
    refine wpAnyH_take (i := 8) (v := ?_) rfl (by kernel_rfl) (by kernel_rfl) (by kernel_rfl) (fun _ _ _ h => h) (Or.inl ⟨by rfl, ?_⟩) hT ?_
    rotate_left
    · intro w hSw
      go_simp
      try (with_reducible rfl)
    try go_frame
    refine wpAnyH_take (i := 9) (v := ?_) rfl (by kernel_rfl) (by kernel_rfl) (by kernel_rfl) (fun _ _ _ h => h) (Or.inl ⟨by rfl, ?_⟩) hT ?_
    rotate_left
    · intro w hSw
      go_simp
      try (with_reducible rfl)
    try go_frame
    refine wpAnyH_ready (rs := [10]) (by kernel_rfl) (by simp) ?_
    refine AllReadyH.cons rfl (fun K hK => ?_) AllReadyH.nil
    go_simp
    refine hK.out _ _ ((Below.heap_setCell _ _ _ _ HNb.out).trans hT3) (fun _ => ?_)
    refine wpAnyH_done (by kernel_rfl) ?_ _
    clear hK hT hT3 k3 f3
    go_wp2
    go_ret
    exact ⟨by rw [HLn.out]; rfl, _, HLP.out, HAt.out, HKp.out⟩
  · refine step_bs (q := q) rfl (.tmp 15) rfl rfl ?_
    have HG3 : Hid ((W2.alloc (.cells ([q].flatMap Nd.cells).toArray 52)).heap[W2.heap.size]? = some (.cells ([q].flatMap Nd.cells).toArray 52)) := alloc_block _ _
    have HBa : Hid (Below W2.heap.size W2 (W2.alloc (.cells ([q].flatMap Nd.cells).toArray 52))) := (Below.refl _ _).alloc (Nat.le_refl _) _
    have hTa : S6 w.heap.size q.cells.toArray (W2.alloc (.cells ([q].flatMap Nd.cells).toArray 52)) := block_on hT HBa.out
    refine hK.out _ _ hTa (fun _ => ?_)
    clear hK hT
    have hT := hTa
    clear hTa
    try go_frame
    replace HKc := hid (HKc.out.on HBa.out)
    replace HBw := hid (HBw.out.trans (HBa.out.mono HBw.out.size))
    replace HLc := hid (Nat.lt_of_lt_of_le HLc.out HBa.out.size)
    clear HBa
    obtain ⟨W3, hW3⟩ : ∃ V, W2.alloc (.cells ([q].flatMap Nd.cells).toArray 52) = V := ⟨_, rfl⟩
    obtain ⟨g3, hg3⟩ : ∃ g, W2.heap.size = g := ⟨_, rfl⟩
    rw [hW3] at HG3 hT HKc HBw HLc
    rw [hg3] at HG3
    change wpAnyH _ _ _ _ _ _ _ _ (W2.alloc (.cells ([q].flatMap Nd.cells).toArray 52))
    rw [hW3, hg3]
    clear hW3 hg3
    refine wpAnyH_ready (rs := [4]) (by kernel_rfl) (by simp) ?_
    refine AllReadyH.cons rfl (fun K hK => ?_) AllReadyH.nil
    have c1 : W3.cell? ⟨rb, 2, none⟩ = some (.slice p ln c) := block_cell HKc.out.blk 2
    go_simp
    refine hK.out _ _ hT (fun hT => ?_)
    clear hK c1
    try go_frame
    refine wpAnyH_ready (rs := [7]) (by kernel_rfl) (by simp) ?_
    refine AllReadyH.cons rfl (fun K hK => ?_) AllReadyH.nil
    refine step_appP (xs := qs) (ys := [q]) (v := .slice p ln c) (u := .slice (some ⟨g3, 0, none⟩) 1 1) elem_node nd_len (fun y hy => by simp at hy; subst hy; exact HQn.out.one) rfl (.tmp 14) (.tmp 16) rfl (by simp [Act.eval]) (by simp [Act.eval]) (B := B) HKc.out.own (Own.sl (Own.blk (e := 52) (B := 0) (xs := [q]) nd_len (Nat.zero_le _) HG3.out (by unfold maxLen; simp)) nd_len) (by simp) (by rw [HLn.out]; simp; omega) (by omega) (Nat.le_trans HK0.out.B_le HBw.out.size) ?_
    intro v' w3 hown hgr hat
    obtain ⟨hc1, hlp, hAt, hKp⟩ := rlay_app HK0.out HBw.out hown hgr hat HQn.out (by rw [HLn.out]; exact HLl.out)
    have hT3 : S6 w.heap.size q.cells.toArray w3 := (hgr.block _ HLc.out (fun e1 => by have h1 : w.heap.size < w.heap.size := (HK0.out.own.at e1.symm).2; omega)).trans hT
    obtain ⟨pv, cv, rfl⟩ := hown.form
    have k3 : w3.cell? ⟨rb, 2, none⟩ = some (.slice p ln c) := block_cell hc1 2
    have f3 := block_frozen hc1 2
    have HLP := hid hlp
    have HAt := hid hAt
    have HKp := hid hKp
    have k5 := hlp.cell
    clear hlp hown hgr hat hT hAt hKp
    simp only [List.length_append, List.length_cons, List.length_nil, Nat.zero_add, HLn.out] at HLP HAt HKp k5 ⊢
    refine hK.out _ _ hT3 (fun hT => ?_)
    clear hK
    try go_frame
    refine wpAnyH_take (i := 8) (v := ?_) rfl (by kernel_rfl) (by kernel_rfl) (by kernel_rfl) (fun _ _ _ h => h) (Or.inl ⟨by rfl, ?_⟩) hT ?_
    rotate_left
    · intro w hSw
      go_simp
      try (with_reducible rfl)
    try go_frame
    refine wpAnyH_take (i := 9) (v := ?_) rfl (by kernel_rfl) (by kernel_rfl) (by kernel_rfl) (fun _ _ _ h => h) (Or.inl ⟨by rfl, ?_⟩) hT ?_
    rotate_left
    · intro w hSw
      go_simp
      try (with_reducible rfl)
    try go_frame
    refine wpAnyH_ready (rs := [10]) (by kernel_rfl) (by simp) ?_
    refine AllReadyH.cons rfl (fun K hK => ?_) AllReadyH.nil
    go_simp
    refine hK.out _ _ ((Below.heap_setCell _ _ _ _ HNb.out).trans hT3) (fun _ => ?_)
    refine wpAnyH_done (by kernel_rfl) ?_ _
    clear hK hT hT3 k3 f3
    go_wp2
    go_ret
    exact ⟨by rw [HLn.out]; rfl, _, HLP.out, HAt.out, HKp.out⟩
set_option maxRecDepth 100000 in
set_option maxHeartbeats 1000000 in
theorem rlay_bad (h : Ry B ts w rb tv sv E o i qs) (q : Nd) (hE : ¬ E = 0) : Calls Tryz.prog 57 #[dp rb, .agg q.cells.toArray] w fun e w' => e = .returned (.int .i64 ((qs.length : Int) - 1)) ∧ Below w.heap.size w w' := by
  obtain ⟨p, c, rfl⟩ := h.own.form
  have HB : Hid (Below w.heap.size w (w.alloc (.cells q.cells.toArray 52 (0, 0)))) := (Below.refl _ _).alloc (Nat.le_refl _) _
  have k0 := (h.on HB.out).cell
  have hq1024 : (qs.length : Int) ≤ 1024 := by have := h.ql; have := h.il; have := h.tl; omega
  have hq0 : (0 : Int) ≤ qs.length := by omega
  have bE : (E == 0) = false := by simp [hE]
  generalize hW : w.alloc (.cells q.cells.toArray 52 (0, 0)) = w1 at *
  have HW := hid hW
  clear h hW hE
  generalize qs.length = ln at *
  go_enter Tryz.func57, Tryz.ntmps57
  go_upto_region 1 with fail
  rw [HW.out]
  go_wp2_with fail
  go_ret
  exact ⟨rfl, HB.out⟩
def Cm2 (r : Rs (Nat × List Np)) (z : Int) (ns : List Np) (i : Nat) (E : Int) : Prop := (r = .bad i E ∧ ¬ E = 0) ∨ (∃ a : Nat, z = a ∧ r = .ok (a, ns) i ∧ E = 0)
/- What one that lays nodes comes to. -/
def Y2 (B : Nat) (ts : List Tp) (rb : Nat) (tv sv : Value) (o : Nat) (w : World) (r : Rs (Nat × List Np)) (e : Ending) (w' : World) : Prop :=
  Kp (Tq rb sv) w w' ∧ ∃ (z : Int) (E : Int) (i : Nat) (sv' : Value) (qs' : List Nd), e = .returned (.int .i64 z) ∧ (-1 ≤ z ∧ z ≤ 1024) ∧ Ry B ts w' rb tv sv' E o i qs' ∧ At w sv sv' ∧ Cm2 r z (qs'.map (·.np)) i E
theorem rlay_any (h : Ry B ts w rb tv sv E o i qs) {q : Nd} (hq : NdIn B w q) (hl : E = 0 → qs.length + 1 ≤ i) : Calls Tryz.prog 57 #[dp rb, .agg q.cells.toArray] w (Y2 B ts rb tv sv o w (lf E i (.ok (qs.length, qs.map (·.np) ++ [q.np]) i))) := by
  have hq1024 : qs.length ≤ 1024 := by have := h.ql; have := h.il; have := h.tl; omega
  by_cases hE : E = 0
  · subst hE
    refine (rlay_ok h hq (hl rfl)).mono ?_
    rintro e w1 ⟨rfl, sv', hr, hat, hk⟩
    exact ⟨hk, _, 0, i, sv', _, rfl, by omega, hr, hat, .inr ⟨_, rfl, by simp [lf], rfl⟩⟩
  · refine (rlay_bad h q hE).mono ?_
    rintro e w1 ⟨rfl, hb⟩
    exact ⟨Kp.of hb, _, E, i, sv, qs, rfl, by omega, h.on hb, At.refl _ _, .inl ⟨if_neg hE, hE⟩⟩
end
end Go.Proofs.YtomnjckbgmbgmaaGreatDoor
namespace Go.Proofs.YtomnjckbgmbgmaaGreatDoor
open Go.RowKit Go.Joins

section
variable {B : Nat} {ts : List Tp} {w w' : World} {rb : Nat} {tv sv : Value} {E : Int} {o i : Nat} {qs : List Nd}
theorem kp_set4e (g : Nat) (w : World) (d0 d1 d2 d3 : Value) : Kp (fun k => k = g) w (set4 w g d0 d1 d2 d3) :=
  (((Kp.set (T := fun k => k = g) rfl _).trans (Kp.set (T := fun k => k = g) rfl _)).trans (Kp.set (T := fun k => k = g) rfl _)).trans (Kp.set (T := fun k => k = g) rfl _)
theorem Ry.back {w1 w2 : World} {E' : Int} {j o' : Nat} (h0 : Ry B ts w rb tv sv E o i qs) (h1 : Ry B ts w1 rb tv sv E' o' j qs) (hk : Kp (fun k => k = rb) w w1) (h2 : Kp (fun k => k = w.heap.size) w1 w2) (hs : ∃ c t fz, w1.heap[w.heap.size]? = some (.cells c t fz) ∧ t ≠ 3 ∧ t ≠ 9 ∧ t ≠ 80) : Ry B ts w2 rb tv sv E' o' j qs ∧ Kp (fun k => k = rb) w w2 := by
  obtain ⟨c, t, fz, hc, ht⟩ := hs
  refine ⟨h1.kp h2 (fun k hk e => ?_) (fun k e c' t' fz' hc' => ?_) (fun k e => ?_), hk.trans' h2 (fun k hk e => by omega)⟩
  · have := h0.T_lt k hk; omega
  · rw [e, hc] at hc'; cases hc'; exact ht
  · have := h0.B_le; omega
set_option maxRecDepth 100000 in
set_option maxHeartbeats 2000000 in
theorem rkind_bad (h : Ry B ts w rb tv sv E o i qs) (k : Int) (hb : ¬ E = 0 ∨ (E = 0 ∧ isK ts i k = false)) : Calls Tryz.prog 55 #[dp rb, .int .i64 k] w fun e w' => e = .returned (TkV ⟨0, [], 0, 0⟩) ∧ Ry B ts w' rb tv sv (erS E 120) o i qs ∧ Kp (fun k => k = rb) w w' := by
  have HB0 : Hid (Below w.heap.size w (w.alloc (.cells zTk 33))) := (Below.refl _ _).alloc (Nat.le_refl _) _
  have HZ := hid (alloc_block w (.cells zTk 33))
  have HQ := hid (h.on HB0.out)
  have k0 := HQ.out.cell
  have HR0 := hid h
  have hne : ¬ rb = w.heap.size := by have := h.lt; omega
  have hil := h.il
  have htl := h.tl
  have HT := hid HQ.out.tok
  obtain ⟨p, cap, rfl, hc1, hc2⟩ := h.tok.form
  unfold maxLen at hc2
  have i0 : (0 : Int) ≤ i := by omega
  generalize hW : w.alloc (.cells zTk 33) = w1 at *
  have HW := hid hW
  clear h hW
  have fin : ∀ (nq : Nat), Hid (Calls Tryz.prog 59 #[dp rb] (w1.drewN nq) fun e w' => e = .returned (.tuple #[]) ∧ Ry B ts w' rb (.slice p ts.length cap) sv (erS E 120) o i qs ∧ Kp (fun k => k = rb) (w1.drewN nq) w') := fun nq => rfail_any (HQ.out.on (below_drewN (Below.refl _ w1) nq))
  have HF := hid fin
  clear fin
  generalize hln : ts.length = ln at *
  have HLn := hid hln
  clear hln
  rcases hb with hE | ⟨rfl, hk⟩
  · have bE : (E != 0) = true := by simp [hE]
    clear HT hE
    go_enter Tryz.func55, Tryz.ntmps55
    go_upto_region 1 with fail
    rw [HW.out]
    go_quiet (fail)
    go_wp2_with (go_at_call 59; refine (HF.out _).out.mono ?_; rintro e w2 ⟨rfl, hq, hk⟩; have HQ2 := hid hq; have HK2 := hid hk; have HZ2 := hid (hk.blk (show (w1.drewN _).heap[w.heap.size]? = some (.cells zTk 33) from HZ.out) (fun e => hne e.symm)); have kz := block_cell HZ2.out; have zz := block_frozen HZ2.out; clear hq hk)
    obtain ⟨a, b⟩ := HR0.out.back HQ2.out ((Kp.of (below_drewN HB0.out _)).trans HK2.out) (kp_set4e w.heap.size _ (.int .i64 0) (.string ⟨#[]⟩) (.int .i64 0) (.int .i64 0)) ⟨_, _, _, HZ2.out, by decide⟩
    exact ret_tok rfl rfl (Bx.set4 HZ2.out _ _ _ _) rfl rfl ⟨rfl, a, b⟩
  · by_cases hi : i < ln
    · obtain ⟨g, og, rfl, hg, hc⟩ := HT.out.at (j := i) (List.getElem?_eq_getElem (by have := HLn.out; omega))
      have hkk : ¬ (ts[i]'(by have := HLn.out; omega)).kind = k := by
        intro e; unfold isK at hk; rw [List.getElem?_eq_getElem (by have := HLn.out; omega)] at hk; simp [e] at hk
      generalize ts[i]'(by have := HLn.out; omega) = t at *
      have e0 : w1.cell? ⟨g, og + i * 4, none⟩ = some (.int .i64 t.kind) := hc 0 _ rfl
      have bk : (t.kind != k) = true := by simp [hkk]
      have iI : (i : Int) < ln := by omega
      have dI : decide ((i : Int) ≥ ln) = false := by simp; omega
      have d2 : decide ((ln : Int) ≤ i) = false := by simp; omega
      clear hc hg HT hk hkk
      go_enter Tryz.func55, Tryz.ntmps55
      go_upto_region 1 with fail
      rw [HW.out]
      go_quiet (fail)
      go_wp2_with (go_at_call 59; refine (HF.out _).out.mono ?_; rintro e w2 ⟨rfl, hq, hk⟩; have HQ2 := hid hq; have HK2 := hid hk; have HZ2 := hid (hk.blk (show (w1.drewN _).heap[w.heap.size]? = some (.cells zTk 33) from HZ.out) (fun e => hne e.symm)); have kz := block_cell HZ2.out; have zz := block_frozen HZ2.out; clear hq hk)
      obtain ⟨a, b⟩ := HR0.out.back HQ2.out ((Kp.of (below_drewN HB0.out _)).trans HK2.out) (kp_set4e w.heap.size _ (.int .i64 0) (.string ⟨#[]⟩) (.int .i64 0) (.int .i64 0)) ⟨_, _, _, HZ2.out, by decide⟩
      exact ret_tok rfl rfl (Bx.set4 HZ2.out _ _ _ _) rfl rfl ⟨rfl, a, b⟩
    · have dI : decide ((i : Int) ≥ ln) = true := by simp; omega
      have d2 : decide ((ln : Int) ≤ i) = true := by simp; omega
      clear HT hk
      go_enter Tryz.func55, Tryz.ntmps55
      go_upto_region 1 with fail
      rw [HW.out]
      go_quiet (fail)
      go_wp2_with (go_at_call 59; refine (HF.out _).out.mono ?_; rintro e w2 ⟨rfl, hq, hk⟩; have HQ2 := hid hq; have HK2 := hid hk; have HZ2 := hid (hk.blk (show (w1.drewN _).heap[w.heap.size]? = some (.cells zTk 33) from HZ.out) (fun e => hne e.symm)); have kz := block_cell HZ2.out; have zz := block_frozen HZ2.out; clear hq hk)
      obtain ⟨a, b⟩ := HR0.out.back HQ2.out ((Kp.of (below_drewN HB0.out _)).trans HK2.out) (kp_set4e w.heap.size _ (.int .i64 0) (.string ⟨#[]⟩) (.int .i64 0) (.int .i64 0)) ⟨_, _, _, HZ2.out, by decide⟩
      exact ret_tok rfl rfl (Bx.set4 HZ2.out _ _ _ _) rfl rfl ⟨rfl, a, b⟩
set_option maxRecDepth 100000 in
set_option maxHeartbeats 2000000 in
theorem rkind_ok (h : Ry B ts w rb tv sv 0 o i qs) (k : Int) (hk : isK ts i k = true) : Calls Tryz.prog 55 #[dp rb, .int .i64 k] w fun e w' => e = .returned (TkV (hereS ts i)) ∧ Ry B ts w' rb tv sv 0 o (i + 1) qs ∧ Kp (fun k => k = rb) w w' := by
  have HB0 : Hid (Below w.heap.size w (w.alloc (.cells zTk 33))) := (Below.refl _ _).alloc (Nat.le_refl _) _
  have HZ := hid (alloc_block w (.cells zTk 33))
  have HQ := hid (h.on HB0.out)
  have k0 := HQ.out.cell
  have z0 := HQ.out.frozen
  have HR0 := hid h
  have hne : ¬ rb = w.heap.size := by have := h.lt; omega
  have hi := isK_lt hk
  have HI := hid hi
  have htl := h.tl
  have HH := hid (here_lt hi)
  have HT := hid HQ.out.tok
  obtain ⟨p, cap, rfl, hc1, hc2⟩ := h.tok.form
  unfold maxLen at hc2
  have i0 : (0 : Int) ≤ i := by omega
  have hgb : ∀ g, g < B → ¬ g = rb ∧ ¬ g = w.heap.size := fun g hg => by have := h.bB; have := h.lt; omega
  obtain ⟨g, og, rfl, hg, hc⟩ := HT.out.at (j := i) (List.getElem?_eq_getElem hi)
  have hkk : (ts[i]'hi).kind = k := by
    unfold isK at hk; rw [List.getElem?_eq_getElem hi] at hk; simpa using hk
  generalize hW : w.alloc (.cells zTk 33) = w1 at *
  have HW := hid hW
  clear h hW hk HT
  generalize ts[i] = t at *
  obtain ⟨gr, gz⟩ := hgb g hg
  generalize hln : ts.length = ln at *
  have HLn := hid hln
  have HC := hid hc
  have e0 : w1.cell? ⟨g, og + i * 4, none⟩ = some (.int .i64 t.kind) := hc 0 _ rfl
  have bk : (t.kind != k) = false := by simp [hkk]
  have iI : (i : Int) < ln := by omega
  have dI : decide ((i : Int) ≥ ln) = false := by simp; omega
  have d2 : decide ((ln : Int) ≤ i) = false := by simp; omega
  have d3 : decide (ln ≤ i) = false := by simp; omega
  have e9 : ((i : Int) + 1) - 1 = i := by omega
  clear hc hg hkk hgb hln hi
  go_enter Tryz.func55, Tryz.ntmps55
  go_upto_region 1 with fail
  rw [HW.out]
  go_quiet (fail)
  go_upto_region 5 with fail
  have HQ5 := hid ((HQ.out.on (below_drewN (Below.refl _ w1) nq)).next (by rw [HLn.out]; exact HI.out))
  have HK5 := hid ((Kp.of (below_drewN HB0.out nq)).trans (Kp.set (T := fun k => k = rb) (w := w1.drewN nq) (b := rb) (i := 1) rfl (.int .i64 ((i : Int) + 1))))
  have HZ5 := hid ((Kp.set (T := fun k => k = rb) (w := w1.drewN nq) (b := rb) (i := 1) rfl (.int .i64 ((i : Int) + 1))).blk (show (w1.drewN nq).heap[w.heap.size]? = some (.cells zTk 33) from HZ.out) (fun e => hne e.symm))
  have HC5 := hid (CellsAt.kp HC.out ((Kp.of (below_drewN (Below.refl _ w1) nq)).trans (Kp.set (T := fun k => k = rb) (w := w1.drewN nq) (b := rb) (i := 1) rfl (.int .i64 ((i : Int) + 1)))) gr)
  clear e0 k0 z0
  generalize (w1.drewN nq).setCell ⟨rb, 1, none⟩ (.int .i64 ((i : Int) + 1)) = W5 at *
  have k5 := HQ5.out.cell
  simp only [Int.natCast_add, Int.cast_ofNat_Int] at k5
  have e0 : W5.cell? ⟨g, og + i * 4, none⟩ = some (.int .i64 t.kind) := HC5.out 0 _ rfl
  have e1 : W5.cell? ⟨g, og + i * 4 + 1, none⟩ = some (.string (St t.s)) := HC5.out 1 _ rfl
  have e2 : W5.cell? ⟨g, og + i * 4 + 2, none⟩ = some (.int .i64 t.n) := HC5.out 2 _ rfl
  have e3 : W5.cell? ⟨g, og + i * 4 + 3, none⟩ = some (.int .i64 t.at_) := HC5.out 3 _ rfl
  have kz := block_cell HZ5.out
  have zz := block_frozen HZ5.out
  go_region
  go_wp2_with fail
  obtain ⟨a, b⟩ := HR0.out.back (HQ5.out.on (Below.refl _ _).drew) (HK5.out.trans (Kp.drew _ _)) (kp_set4e w.heap.size _ (.int .i64 t.kind) (.string (St t.s)) (.int .i64 t.n) (.int .i64 t.at_)) ⟨_, _, _, HZ5.out, by decide⟩
  exact ret_tok rfl rfl (Bx.set4 (w := W5.drew) HZ5.out _ _ _ _) rfl rfl ⟨by rw [HH.out], a, b⟩
theorem rkind_any (h : Ry B ts w rb tv sv E o i qs) (k : Int) : Calls Tryz.prog 55 #[dp rb, .int .i64 k] w (Y1 B ts rb tv sv o qs w vTok (lf E i (takeS ts k i))) := by
  by_cases hE : E = 0
  · subst hE
    cases hk : isK ts i k with
    | true =>
      refine (rkind_ok h k hk).mono ?_
      rintro e w1 ⟨rfl, hr, hkp⟩
      exact ⟨hkp, _, _, 0, i + 1, rfl, rfl, hr, .inr ⟨by simp [lf, takeS, hk], rfl⟩⟩
    | false =>
      refine (rkind_bad h k (.inr ⟨rfl, hk⟩)).mono ?_
      rintro e w1 ⟨rfl, hr, hkp⟩
      exact ⟨hkp, ⟨0, [], 0, 0⟩, _, _, i, rfl, rfl, hr, by unfold takeS; rw [hk]; exact erS_lf⟩
  · refine (rkind_bad h k (.inl hE)).mono ?_
    rintro e w1 ⟨rfl, hr, hkp⟩
    have he : erS E 120 = E := if_neg hE
    rw [he] at hr
    exact ⟨hkp, ⟨0, [], 0, 0⟩, _, E, i, rfl, rfl, hr, lf_bad hE⟩
end
end Go.Proofs.YtomnjckbgmbgmaaGreatDoor
namespace Go.Proofs.YtomnjckbgmbgmaaGreatDoor
open Go.RowKit Go.Joins

theorem ok_lf {α : Type} {E : Int} {i : Nat} {x : α} : Cm (lf E i (.ok x i)) x i E := by
  by_cases hE : E = 0
  · exact .inr ⟨if_pos hE, hE⟩
  · exact lf_bad hE
theorem Cm.map {α β : Type} {r : Rs α} {g : α → β} {x : α} {i0 i : Nat} {E0 E : Int} (h : Cm (lf E0 i0 r) x i E) : Cm (lf E0 i0 (r.and fun t j => .ok (g t) j)) (g x) i E := h.lfand ok_lf
theorem isE_false {E : Int} {ts : List Tp} {i : Nat} {x : List UInt8} (h : isE E ts i x = false) (hE : E = 0) : isW ts i x = false := by
  subst hE; simpa [isE] using h
theorem word_no {ts : List Tp} {i : Nat} {x : List UInt8} {k : Int} (h : isW ts i x = true) (h1 : ¬ k = 1) (h4 : ¬ k = 4) : isK ts i k = false := by
  unfold isW at h; unfold isK
  cases e : ts[i]? with
  | none => rfl
  | some t =>
    rw [e] at h
    simp at h
    simp
    rcases h.1 with h | h <;> omega
theorem value_true {ts : List Tp} {i : Nat} (h : isW ts i [116, 114, 117, 101] = true) : valueS ts i = .ok (3, 1, []) (i + 1) := by
  have hf : isW ts i [102, 97, 108, 115, 101] = false := by
    cases hw : isW ts i [102, 97, 108, 115, 101] with
    | false => rfl
    | true =>
      unfold isW at h hw
      cases e : ts[i]? with
      | none => rw [e] at h; cases h
      | some t => rw [e] at h hw; simp at h hw; rw [h.2] at hw; simp at hw
  simp [valueS, word_no h (k := 2) (by decide) (by decide), word_no h (k := 3) (by decide) (by decide), oneOfS, boolW, idxOf, h, hf, Rs.and]
theorem value_false {ts : List Tp} {i : Nat} (h : isW ts i [102, 97, 108, 115, 101] = true) : valueS ts i = .ok (3, 0, []) (i + 1) := by
  simp [valueS, word_no h (k := 2) (by decide) (by decide), word_no h (k := 3) (by decide) (by decide), oneOfS, boolW, idxOf, h, Rs.and]
theorem value_num {ts : List Tp} {i : Nat} (h : isK ts i 2 = true) : valueS ts i = (takeS ts 2 i).and fun t j => .ok ((1, t.n, []) : Int × Int × List UInt8) j := by
  simp [valueS, h, numS', takeS, Rs.and]
theorem value_txt {ts : List Tp} {i : Nat} (h2 : isK ts i 2 = false) (ht : isW ts i [116, 114, 117, 101] = false) (hf : isW ts i [102, 97, 108, 115, 101] = false) : valueS ts i = (takeS ts 3 i).and fun t j => .ok ((2, 0, t.s) : Int × Int × List UInt8) j := by
  cases h3 : isK ts i 3 with
  | true => simp [valueS, h2, h3, textV]
  | false => simp [valueS, h2, h3, takeS, oneOfS, boolW, idxOf, ht, hf, Rs.and]
theorem rv_txt {ts : List Tp} {i j : Nat} {E E' : Int} {t : Tp} (h2 : isK ts i 2 = false) (ht : isE E ts i [116, 114, 117, 101] = false) (hf : isE E ts i [102, 97, 108, 115, 101] = false) (h : Cm (lf E i (takeS ts 3 i)) t j E') : Cm (lf E i (valueS ts i)) ((2, 0, t.s) : Int × Int × List UInt8) j E' := by
  by_cases hE : E = 0
  · rw [value_txt h2 (isE_false ht hE) (isE_false hf hE)]; exact h.map (g := fun t => ((2, 0, t.s) : Int × Int × List UInt8))
  · unfold lf at h ⊢
    rw [if_neg hE] at h ⊢
    rcases h with ⟨h, h2⟩ | ⟨h, h2⟩
    · cases h; exact .inl ⟨rfl, h2⟩
    · cases h
section
variable {B : Nat} {ts : List Tp} {w w' : World} {rb : Nat} {tv sv : Value} {E : Int} {o i : Nat} {qs : List Nd}
set_option maxRecDepth 100000 in
set_option maxHeartbeats 2000000 in
theorem rvalue_any (h : Ry B ts w rb tv sv E o i qs) : Calls Tryz.prog 123 #[dp rb] w (Y1 B ts rb tv sv o qs w vVal (lf E i (valueS ts i))) := by
  have HB0 : Hid (Below w.heap.size w (w.alloc (.cells zVl 47))) := (Below.refl _ _).alloc (Nat.le_refl _) _
  have HZ := hid (alloc_block w (.cells zVl 47))
  have hf1 := fld1
  have hf2 := fld2
  have HQ0 := hid (h.on HB0.out)
  have HR0 := hid h
  have hne : ¬ rb = w.heap.size := by have := h.lt; omega
  have HSt := hid (rsees_any HQ0.out [116, 114, 117, 101])
  have hil := h.il
  have htl := h.tl
  obtain ⟨p, cap, rfl, hc1, hc2⟩ := h.tok.form
  unfold maxLen at hc2
  generalize hW : w.alloc (.cells zVl 47) = w1 at *
  have HW := hid hW
  have M1 : Hid True := trivial
  clear h hW
  cases ct : isE E ts i [116, 114, 117, 101] with
  | true =>
    have CT := hid ct
    rw [ct] at HSt
    clear ct
    go_enter Tryz.func123, Tryz.ntmps123
    go_upto_region 1 with fail
    rw [HW.out]
    go_wp2_with (first
      | (go_at_call 56; refine HSt.out.mono ?_; rintro e w2 ⟨rfl, hq, hk⟩; have HQ := hid hq; have HK := hid hk; clear hq hk)
      | (refine store_val (c := (3, 1, [])) rfl _ _ rfl rfl rfl (HK.out.blk HZ.out (fun e => hne e.symm)) rfl ?_; intro w4 h4 k4; have H4 := hid h4; have K4 := hid k4; clear h4 k4))
    obtain ⟨a, b⟩ := HR0.out.back HQ.out ((Kp.of HB0.out).trans HK.out) K4.out ⟨_, _, _, HK.out.blk HZ.out (fun e => hne e.symm), by decide⟩
    exact ret_val rfl rfl H4.out rfl rfl ⟨b, _, _, _, _, rfl, rfl, a, by have hE := isE_E CT.out; subst hE; exact .inr ⟨by rw [value_true (isE_W CT.out)]; rfl, rfl⟩⟩
  | false =>
    have CT := hid ct
    rw [ct] at HSt
    clear ct
    cases cf : isE E ts i [102, 97, 108, 115, 101] with
    | true =>
      have CF := hid cf
      clear cf
      go_enter Tryz.func123, Tryz.ntmps123
      go_upto_region 1 with fail
      rw [HW.out]
      go_wp2_with (first
        | (go_at_call 56; have FIRST := M1; refine HSt.out.mono ?_; rintro e w2 ⟨rfl, hq, hk⟩; have HQ1 := hid hq; have HK1 := hid hk; have HS2 := hid (rsees_any hq [102, 97, 108, 115, 101]); simp only [Bool.false_eq_true, if_false, CF.out] at HS2; clear hq hk M1 FIRST)
        | (go_at_call 56; refine HS2.out.mono ?_; rintro e w3 ⟨rfl, hq, hk⟩; have HQ := hid hq; have HK := hid (HK1.out.trans hk); clear hq hk)
        | (refine store_val (c := (3, 0, [])) rfl _ _ rfl rfl rfl (HK.out.blk HZ.out (fun e => hne e.symm)) rfl ?_; intro w4 h4 k4; have H4 := hid h4; have K4 := hid k4; clear h4 k4))
      obtain ⟨a, b⟩ := HR0.out.back HQ.out ((Kp.of HB0.out).trans HK.out) K4.out ⟨_, _, _, HK.out.blk HZ.out (fun e => hne e.symm), by decide⟩
      exact ret_val rfl rfl H4.out rfl rfl ⟨b, _, _, _, _, rfl, rfl, a, by have hE := isE_E CF.out; subst hE; exact .inr ⟨by rw [value_false (isE_W CF.out)]; rfl, rfl⟩⟩
    | false =>
      have CF := hid cf
      clear cf
      cases c2 : isK ts i 2 with
      | true =>
        have C2 := hid c2
        have hi := isK_lt c2
        have bk : ((ts[i]).kind == 2) = true := by unfold isK at c2; rw [List.getElem?_eq_getElem hi] at c2; simpa using c2
        have iI : (i : Int) < ts.length := by omega
        have d2 : decide (i < ts.length) = true := by simp; omega
        clear c2
        go_enter Tryz.func123, Tryz.ntmps123
        go_upto_region 1 with fail
        rw [HW.out]
        go_upto_region 5 with (first
          | (go_at_call 56; have FIRST := M1; refine HSt.out.mono ?_; rintro e w2 ⟨rfl, hq, hk⟩; have HQ1 := hid hq; have HK1 := hid hk; have HS2 := hid (rsees_any hq [102, 97, 108, 115, 101]); simp only [Bool.false_eq_true, if_false, CF.out] at HS2; clear hq hk M1 FIRST)
          | (go_at_call 56; refine HS2.out.mono ?_; rintro e w3 ⟨rfl, hq, hk⟩; have HQ := hid hq; have HK := hid (HK1.out.trans hk); have k3 := hq.cell; clear hq hk))
        obtain ⟨g, og, rfl, hg, hc⟩ := HQ.out.tok.at (j := i) (List.getElem?_eq_getElem hi)
        have e0 : w3.cell? ⟨g, og + i * 4, none⟩ = some (.int .i64 (ts[i]).kind) := hc 0 _ rfl
        clear hc hg
        generalize ts[i] = t at *
        generalize hln : ts.length = ln at *
        have HLn := hid hln
        clear hln
        go_quiet (fail)
        have HQ3 := hid (HQ.out.on (below_drewN (Below.refl _ w3) nq))
        have HK3 := hid (HK.out.trans (Kp.of (below_drewN (Below.refl _ w3) nq)))
        clear k3
        generalize w3.drewN nq = W3 at *
        go_wp2_with (first
          | (go_at_call 55; refine (rkind_any HQ3.out 2).mono ?_; rintro e w5 ⟨hk, t5, v5, E5, j5, rfl, rfl, hq, hc⟩; have HQ5 := hid hq; have HK5 := hid (HK3.out.trans hk); have HC5 := hid hc; clear hq hk hc)
          | (refine store_val (c := (1, t5.n, [])) rfl _ _ rfl rfl rfl (HK5.out.blk HZ.out (fun e => hne e.symm)) rfl ?_; intro w6 h6 k6; have H6 := hid h6; have K6 := hid k6; clear h6 k6))
        obtain ⟨a, b⟩ := HR0.out.back HQ5.out ((Kp.of HB0.out).trans HK5.out) K6.out ⟨_, _, _, HK5.out.blk HZ.out (fun e => hne e.symm), by decide⟩
        exact ret_val rfl rfl H6.out rfl rfl ⟨b, (1, t5.n, []), _, E5, j5, rfl, rfl, a, (by rw [value_num C2.out]; exact HC5.out.map (g := fun t => ((1, t.n, []) : Int × Int × List UInt8)))⟩
      | false =>
        have C2 := hid c2
        by_cases hi : i < ts.length
        · have bk : ((ts[i]).kind == 2) = false := by unfold isK at c2; rw [List.getElem?_eq_getElem hi] at c2; simpa using c2
          have iI : (i : Int) < ts.length := by omega
          have d2 : decide (i < ts.length) = true := by simp; omega
          clear c2
          go_enter Tryz.func123, Tryz.ntmps123
          go_upto_region 1 with fail
          rw [HW.out]
          go_upto_region 5 with (first
            | (go_at_call 56; have FIRST := M1; refine HSt.out.mono ?_; rintro e w2 ⟨rfl, hq, hk⟩; have HQ1 := hid hq; have HK1 := hid hk; have HS2 := hid (rsees_any hq [102, 97, 108, 115, 101]); simp only [Bool.false_eq_true, if_false, CF.out] at HS2; clear hq hk M1 FIRST)
            | (go_at_call 56; refine HS2.out.mono ?_; rintro e w3 ⟨rfl, hq, hk⟩; have HQ := hid hq; have HK := hid (HK1.out.trans hk); have k3 := hq.cell; clear hq hk))
          obtain ⟨g, og, rfl, hg, hc⟩ := HQ.out.tok.at (j := i) (List.getElem?_eq_getElem hi)
          have e0 : w3.cell? ⟨g, og + i * 4, none⟩ = some (.int .i64 (ts[i]).kind) := hc 0 _ rfl
          clear hc hg
          generalize ts[i] = t at *
          generalize hln : ts.length = ln at *
          have HLn := hid hln
          clear hln
          go_quiet (fail)
          have HQ3 := hid (HQ.out.on (below_drewN (Below.refl _ w3) nq))
          have HK3 := hid (HK.out.trans (Kp.of (below_drewN (Below.refl _ w3) nq)))
          clear k3
          generalize w3.drewN nq = W3 at *
          go_wp2_with (first
            | (go_at_call 55; refine (rkind_any HQ3.out 3).mono ?_; rintro e w5 ⟨hk, t5, v5, E5, j5, rfl, rfl, hq, hc⟩; have HQ5 := hid hq; have HK5 := hid (HK3.out.trans hk); have HC5 := hid hc; clear hq hk hc)
            | (refine store_val (c := (2, 0, t5.s)) rfl _ _ rfl rfl rfl (HK5.out.blk HZ.out (fun e => hne e.symm)) rfl ?_; intro w6 h6 k6; have H6 := hid h6; have K6 := hid k6; clear h6 k6))
          obtain ⟨a, b⟩ := HR0.out.back HQ5.out ((Kp.of HB0.out).trans HK5.out) K6.out ⟨_, _, _, HK5.out.blk HZ.out (fun e => hne e.symm), by decide⟩
          exact ret_val rfl rfl H6.out rfl rfl ⟨b, (2, 0, t5.s), _, E5, j5, rfl, rfl, a, rv_txt C2.out CT.out CF.out HC5.out⟩
        · have iI : ¬ (i : Int) < ts.length := by omega
          have d2 : decide (i < ts.length) = false := by simp; omega
          clear c2
          go_enter Tryz.func123, Tryz.ntmps123
          go_upto_region 1 with fail
          rw [HW.out]
          go_upto_region 5 with (first
            | (go_at_call 56; have FIRST := M1; refine HSt.out.mono ?_; rintro e w2 ⟨rfl, hq, hk⟩; have HQ1 := hid hq; have HK1 := hid hk; have HS2 := hid (rsees_any hq [102, 97, 108, 115, 101]); simp only [Bool.false_eq_true, if_false, CF.out] at HS2; clear hq hk M1 FIRST)
            | (go_at_call 56; refine HS2.out.mono ?_; rintro e w3 ⟨rfl, hq, hk⟩; have HQ := hid hq; have HK := hid (HK1.out.trans hk); have k3 := hq.cell; clear hq hk))
          generalize hln : ts.length = ln at *
          have HLn := hid hln
          clear hln
          go_quiet (fail)
          have HQ3 := hid (HQ.out.on (below_drewN (Below.refl _ w3) nq))
          have HK3 := hid (HK.out.trans (Kp.of (below_drewN (Below.refl _ w3) nq)))
          clear k3
          generalize w3.drewN nq = W3 at *
          go_wp2_with (first
            | (go_at_call 55; refine (rkind_any HQ3.out 3).mono ?_; rintro e w5 ⟨hk, t5, v5, E5, j5, rfl, rfl, hq, hc⟩; have HQ5 := hid hq; have HK5 := hid (HK3.out.trans hk); have HC5 := hid hc; clear hq hk hc)
            | (refine store_val (c := (2, 0, t5.s)) rfl _ _ rfl rfl rfl (HK5.out.blk HZ.out (fun e => hne e.symm)) rfl ?_; intro w6 h6 k6; have H6 := hid h6; have K6 := hid k6; clear h6 k6))
          obtain ⟨a, b⟩ := HR0.out.back HQ5.out ((Kp.of HB0.out).trans HK5.out) K6.out ⟨_, _, _, HK5.out.blk HZ.out (fun e => hne e.symm), by decide⟩
          exact ret_val rfl rfl H6.out rfl rfl ⟨b, (2, 0, t5.s), _, E5, j5, rfl, rfl, a, rv_txt C2.out CT.out CF.out HC5.out⟩
end
end Go.Proofs.YtomnjckbgmbgmaaGreatDoor
namespace Go.Proofs.YtomnjckbgmbgmaaGreatDoor
open Go.RowKit Go.Joins

theorem take_lf {ts : List Tp} {k : Int} {i j : Nat} {E E' : Int} {x : Tp} (h : Cm (lf E i (takeS ts k i)) x j E') : i ≤ j := by
  unfold lf takeS at h
  split at h
  · split at h
    · rcases h with ⟨h, h2⟩ | ⟨h, h2⟩
      · cases h
      · cases h; omega
    · rcases h with ⟨h, h2⟩ | ⟨h, h2⟩
      · cases h; omega
      · cases h
  · rcases h with ⟨h, h2⟩ | ⟨h, h2⟩
    · cases h; omega
    · cases h
section
variable {B : Nat} {ts : List Tp} {w w' : World} {rb : Nat} {tv sv : Value} {E : Int} {o i : Nat} {qs : List Nd}
theorem Ry.backN {w1 w2 : World} {E' : Int} {j o' : Nat} (h0 : Ry B ts w rb tv sv E o i qs) (h1 : Ry B ts w1 rb tv sv E' o' j qs) (hk : Kp (fun k => k = rb) w w1) (h2 : Kp (fun k => w.heap.size ≤ k) w1 w2) : Ry B ts w2 rb tv sv E' o' j qs ∧ Kp (fun k => k = rb) w w2 := by
  have hl := h0.lt
  have hk2 : Kp (fun k => k = rb) w w2 := hk.trans' h2 (fun k hk ht => by omega)
  exact ⟨h0.put hk2 (h2.blk h1.blk (by omega)) h1.il h1.ql h1.ol, hk2⟩
theorem Ry.atOf (h : Ry B ts w rb tv sv E o i qs) : atOf rb w = i := by
  unfold Go.Proofs.YtomnjckbgmbgmaaGreatDoor.atOf
  rw [h.cell 1]
  simp
theorem Own.rdy {α : Type} {enc : α → List Value} {k e n : Nat} {w' : World} {v : Value} {xs : List α} (h : Own enc k e n w v xs) (hq : Ry B ts w rb tv sv E o i qs) (hk : Kp (fun k => k = rb) w w') (he : e ≠ 62) : Own enc k e n w' v xs :=
  h.kpk hk (fun g hT c t fz hc => by subst hT; rw [hq.blk] at hc; cases hc; exact fun e' => he e'.symm)
set_option maxRecDepth 100000 in
set_option maxHeartbeats 2000000 in
theorem rnames_any (h : Ry B ts w rb tv sv E o i qs) : Calls Tryz.prog 94 #[dp rb] w (Y1 B ts rb tv sv o qs w (vlists w.heap.size) (lf E i (listS ts (nameS ts) i))) := by
  have HQ0 := hid h
  have HN := hid (rkind_any h 1)
  have htl := h.tl
  have hf1 := fld1
  clear h
  have M1 : Hid True := trivial
  go_enter Tryz.func94, Tryz.ntmps94
  go_wp2_with (go_at_call 55; clear M1; refine HN.out.mono ?_; rintro e w1 ⟨hk, x, v, E1, j, rfl, rfl, hq, hc⟩; have HK := hid hk; have HQ := hid hq; have HC := hid hc; have HO := hid ((lists_one w1 x.s).le hk.size); have HQa := hid (hq.on ((Below.refl _ _).alloc (Nat.le_refl _) (.cells #[.string (St x.s)] 9))); have HKa := hid (hk.trans (Kp.alloc _ w1 (.cells #[.string (St x.s)] 9))); clear hk hq hc)
  generalize hw2 : w1.alloc (.cells #[.string (St x.s)] 9) = w2 at *
  have HL : Hid (∀ y k E', Cm (lf E1 j (moreS ts (nameS ts) ts.length [x.s] j)) y k E' → Cm (lf E i (listS ts (nameS ts) i)) y k E') := fun y k E' hy => by
    have h1 : Cm (lf E i (nameS ts i)) x.s j E1 := HC.out.map (g := fun t : Tp => t.s)
    exact h1.lfand hy
  clear HC HK HQ
  go_loopw [3] (fun u wr => ∃ (f j : Nat) (acc : List (List UInt8)) (Ej : Int), Hid (∀ y k E', Cm (lf Ej j (moreS ts (nameS ts) f acc j)) y k E' → Cm (lf E i (listS ts (nameS ts) i)) y k E') ∧ Hid (ts.length ≤ f + j ∧ acc.length ≤ j + 1) ∧ Hid (Own str1 1 9 w.heap.size wr u acc) ∧ Hid (Ry B ts wr rb tv sv Ej o j qs) ∧ Hid (Kp (fun k => k = rb) w wr)) (fun _ wr => ts.length + 1 - atOf rb wr)
  case atStart => exact ⟨ts.length, j, [x.s], E1, HL.out, ⟨by omega, by simp⟩, HO.out, HQa.out, HKa.out⟩
  case round =>
    obtain ⟨f, j, acc, Ej, HM, HF, HOr, HQr, HKr⟩ := hrel
    have HS := hid (rsees_any HQr.out wComma)
    cases hw : isE Ej ts j wComma with
    | true =>
      rw [hw] at HS
      have hj := isE_lt hw
      have hE := isE_E hw
      subst hE
      obtain ⟨f', rfl⟩ : ∃ f', f = f' + 1 := ⟨f - 1, by have := HF.out; omega⟩
      have HM2 : Hid (∀ y k E', Cm ((nameS ts (j + 1)).and fun x j => moreS ts (nameS ts) f' (acc ++ [x]) j) y k E' → Cm (lf E i (listS ts (nameS ts) i)) y k E') := fun y k E' hy => HM.out y k E' (by unfold lf; rw [if_pos rfl, moreS, if_pos (isE_W hw)]; exact hy)
      have HJ := hid hj
      clear hw HM hj
      obtain ⟨pu, cu, rfl⟩ := HOr.out.form
      go_wp2_with (first
        | (go_at_call 56; refine HS.out.mono ?_; rintro e w3 ⟨rfl, hq, hk⟩; have HQ3 := hid hq; have HK3 := hid (HKr.out.trans hk); have HO3 := hid (HOr.out.rdy HQr.out hk (by decide)); clear hq hk)
        | (go_at_call 55; refine (rkind_any HQ3.out 1).mono ?_; rintro e w4 ⟨hk, y, v, E4, j2, rfl, rfl, hq, hc⟩; have HK4 := hid (HK3.out.trans hk); have HQ4 := hid hq; have HC4 := hid hc; have HO4 := hid (HO3.out.rdy HQ3.out hk (by decide)); clear hk hq hc)
        | (at_builtin; refine app_N elem_str (fun _ => rfl) (by intro y _ c hc; simp at hc; subst hc; rfl) rfl _ _ rfl rfl (HO4.out.on ((Below.refl _ _).alloc (Nat.le_refl _) (.cells #[.string (St y.s)] 9))) rfl (Own.sl (lists_one w4 y.s) (fun _ => rfl)) (by simp) (by have := HF.out; have := HJ.out; simp; omega) (by decide) (by have := HK4.out.size; simp; omega) ?_; intro v5 w5 ho hg; have HO5 := hid ho; have HB5 := hid (Ry.backN HQ0.out HQ4.out HK4.out ((Kp.alloc (fun k => w.heap.size ≤ k) w4 (.cells #[.string (St y.s)] 9)).trans (Kp.grown hg (fun k e => (HO4.out.at e).1)))); clear ho hg))
      have hgo := take_lf HC4.out
      simp only [if_true] at hgo
      go_roundw
      case rel =>
        refine ⟨f', j2, acc ++ [y.s], E4, fun z k E' hz => HM2.out z k E' ?_, ⟨by have := HF.out; omega, by have := HF.out; simp; omega⟩, HO5.out, HB5.out.1, HB5.out.2⟩
        have h1 : Cm (lf 0 (j + 1) (nameS ts (j + 1))) y.s j2 E4 := by have := HC4.out; simp only [if_true] at this; exact this.map (g := fun t : Tp => t.s)
        have h2 : Cm (nameS ts (j + 1)) y.s j2 E4 := by unfold lf at h1; rw [if_pos rfl] at h1; exact h1
        exact h2.and hz
      case measure =>
        rw [HB5.out.1.atOf, HQr.out.atOf]; have := HJ.out; omega
    | false =>
      rw [hw] at HS
      have HM2 : Hid (Cm (lf E i (listS ts (nameS ts) i)) acc j Ej) := HM.out _ _ _ (by
        by_cases hE : Ej = 0
        · subst hE
          refine .inr ⟨?_, rfl⟩
          unfold lf; rw [if_pos rfl]
          cases f with
          | zero => rfl
          | succ f => rw [moreS, if_neg (by rw [isE_false hw rfl]; decide)]
        · exact lf_bad hE)
      clear hw HM
      obtain ⟨pu, cu, rfl⟩ := HOr.out.form
      go_wp2_with (go_at_call 56; refine HS.out.mono ?_; rintro e w3 ⟨rfl, hq, hk⟩; have HQ3 := hid hq; have HK3 := hid (HKr.out.trans hk); have HO3 := hid (HOr.out.rdy HQr.out hk (by decide)); clear hq hk)
      go_ret
      exact ⟨HK3.out, acc, _, Ej, j, rfl, HO3.out, HQ3.out, HM2.out⟩
end
end Go.Proofs.YtomnjckbgmbgmaaGreatDoor
namespace Go.Proofs.YtomnjckbgmbgmaaGreatDoor
open Go.RowKit Go.Joins

theorem lf_bad_and {α β : Type} {E c : Int} {i j : Nat} {r : Rs α} {f : α → Nat → Rs β} (h : lf E i r = .bad j c) : lf E i (r.and f) = .bad j c := by
  unfold lf at h ⊢
  split
  · rename_i hE; rw [if_pos hE] at h; rw [h]; rfl
  · rename_i hE; rw [if_neg hE] at h; cases h; rfl
theorem lf_ok_and {α β : Type} {E : Int} {i j : Nat} {r : Rs α} {x : α} {f : α → Nat → Rs β} (h : lf E i r = .ok x j) : lf E i (r.and f) = f x j ∧ r = .ok x j := by
  unfold lf at h ⊢
  split
  · rename_i hE; rw [if_pos hE] at h; rw [h]; exact ⟨rfl, rfl⟩
  · rename_i hE; rw [if_neg hE] at h; cases h
/- Where a chain stands; T: what it comes to. -/
def InvC (ts : List Tp) (x : List UInt8) (kind : Int) (p : PN) (T : Rs (Nat × List Np)) (f : Nat) (z : Int) (j : Nat) (ns : List Np) (E : Int) : Prop :=
  (E = 0 ∧ ∃ a : Nat, z = a ∧ a < ns.length ∧ ts.length ≤ f + j ∧ T = chainL ts x kind p f a j ns) ∨ (¬ E = 0 ∧ T = .bad j E)
theorem inv_start {ts : List Tp} {x : List UInt8} {kind : Int} {p : PN} {E E1 z : Int} {i j : Nat} {ns ns1 : List Np} (hg : GoN ts p) (h : Cm2 (lf E i (p i ns)) z ns1 j E1) : InvC ts x kind p (lf E i (chainS ts x kind p i ns)) ts.length z j ns1 E1 := by
  rcases h with ⟨h, hE⟩ | ⟨a, rfl, h, hE⟩
  · exact .inr ⟨hE, lf_bad_and h⟩
  · obtain ⟨h1, h2⟩ := lf_ok_and (f := fun r j => chainL ts x kind p ts.length r.1 j r.2) h
    have g := hg _ _ _ _ h2
    exact .inl ⟨hE, a, rfl, g.2.2.2.1, by omega, h1⟩
theorem inv_more {ts : List Tp} {x : List UInt8} {kind : Int} {p : PN} {T : Rs (Nat × List Np)} {f j : Nat} {z : Int} {ns : List Np} (h : InvC ts x kind p T f z j ns 0) (hw : isW ts j x = true) : ∃ f' a : Nat, z = a ∧ (ts.length ≤ f' + 1 + j ∧ T = (p (j + 1) ns).and fun r j => chainL ts x kind p f' r.2.length j (r.2 ++ [{ n0 with kind := kind, l := [(a : Int), (r.1 : Int)] }])) := by
  rcases h with ⟨-, a, hz, -, hf, hT⟩ | ⟨h, -⟩
  · have hl := isW_lt hw
    obtain ⟨f', rfl⟩ : ∃ f', f = f' + 1 := ⟨f - 1, by omega⟩
    rw [chainL, if_pos hw] at hT
    exact ⟨f', a, hz, hf, hT⟩
  · exact absurd rfl h
theorem inv_end {ts : List Tp} {x : List UInt8} {kind : Int} {p : PN} {T : Rs (Nat × List Np)} {f j : Nat} {z E : Int} {ns : List Np} (h : InvC ts x kind p T f z j ns E) (hw : E = 0 → isW ts j x = false) : Cm2 T z ns j E := by
  rcases h with ⟨hE, a, hz, -, -, hT⟩ | ⟨hE, hT⟩
  · refine .inr ⟨a, hz, ?_, hE⟩
    rw [hT]
    cases f with
    | zero => rfl
    | succ f => rw [chainL, if_neg (by rw [hw hE]; decide)]
  · exact .inl ⟨hT, hE⟩
theorem part_len {ts : List Tp} {p : PN} {j j4 : Nat} {z4 E4 : Int} {qs' qs4 : List Nd} (hg : GoN ts p) (h : Cm2 (lf 0 (if true = true then j + 1 else j) (p (if true = true then j + 1 else j) (qs'.map (·.np)))) z4 (qs4.map (·.np)) j4 E4) (hE : E4 = 0) (hl : qs'.length ≤ j) : qs4.length + 1 ≤ j4 := by
  simp only [if_true] at h
  rcases h with ⟨h, hn⟩ | ⟨a, -, h, -⟩
  · exact absurd hE hn
  · unfold lf at h; rw [if_pos rfl] at h
    have g := hg _ _ _ _ h
    simp at g; omega
theorem inv_next {ts : List Tp} {x : List UInt8} {kind : Int} {p : PN} {T : Rs (Nat × List Np)} {f' a j j4 j5 : Nat} {z4 z5 E4 E5 : Int} {ns : List Np} {qs4 qs5 : List Nd} (hg : GoN ts p)
    (hT : ts.length ≤ f' + 1 + j ∧ T = (p (j + 1) ns).and fun r j => chainL ts x kind p f' r.2.length j (r.2 ++ [{ n0 with kind := kind, l := [(a : Int), (r.1 : Int)] }]))
    (h4 : Cm2 (lf 0 (j + 1) (p (j + 1) ns)) z4 (qs4.map (·.np)) j4 E4) (h5 : Cm2 (lf E4 j4 (.ok (qs4.length, qs4.map (·.np) ++ [{ n0 with kind := kind, l := [(a : Int), z4] }]) j4)) z5 (qs5.map (·.np)) j5 E5) (_hl : j < ts.length) : InvC ts x kind p T f' z5 j5 (qs5.map (·.np)) E5 ∧ (E5 = 0 → j + 2 ≤ j5) := by
  obtain ⟨hf, rfl⟩ := hT
  rcases h4 with ⟨h4, hn⟩ | ⟨b, rfl, h4, rfl⟩
  · have e5 : lf E4 j4 (.ok (qs4.length, qs4.map (·.np) ++ [{ n0 with kind := kind, l := [(a : Int), z4] }]) j4) = .bad j4 E4 := if_neg hn
    rw [e5] at h5
    rcases h5 with ⟨h5, hn5⟩ | ⟨_, _, h5, _⟩
    · cases h5
      unfold lf at h4; rw [if_pos rfl] at h4
      exact ⟨.inr ⟨hn, by rw [h4]; rfl⟩, fun e => absurd e hn⟩
    · cases h5
  · unfold lf at h4 h5; rw [if_pos rfl] at h4 h5
    have g := hg _ _ _ _ h4
    rcases h5 with ⟨h5, _⟩ | ⟨c, rfl, h5, rfl⟩
    · cases h5
    · simp only [Rs.ok.injEq, Prod.mk.injEq] at h5
      obtain ⟨⟨hc, hns⟩, rfl⟩ := h5
      refine ⟨.inl ⟨rfl, c, rfl, by rw [← hns, ← hc]; simp, by omega, ?_⟩, fun _ => by omega⟩
      rw [h4, ← hns, ← hc]; simp [Rs.and]
theorem cm2_ne {E E1 z : Int} {i j : Nat} {r : Rs (Nat × List Np)} {ns : List Np} (hE : ¬ E = 0) (h : Cm2 (lf E i r) z ns j E1) : ¬ E1 = 0 := by
  unfold lf at h; rw [if_neg hE] at h
  rcases h with ⟨_, h⟩ | ⟨_, _, h, _⟩
  · exact h
  · cases h
section
variable {B : Nat} {ts : List Tp} {w w' : World} {rb : Nat} {tv sv : Value} {E : Int} {o i : Nat} {qs : List Nd}
def errOf (rb : Nat) (w : World) : Int := match w.cell? ⟨rb, 3, none⟩ with
  | some (.int _ n) => n
  | _ => 0
def msr (rb : Nat) (ts : List Tp) (w : World) : Nat := if errOf rb w = 0 then ts.length + 2 - atOf rb w else 0
theorem Ry.msr (h : Ry B ts w rb tv sv E o i qs) : msr rb ts w = if E = 0 then ts.length + 2 - i else 0 := by
  have e : errOf rb w = E := by unfold errOf; rw [h.cell 3]; simp
  unfold Go.Proofs.YtomnjckbgmbgmaaGreatDoor.msr
  rw [e, h.atOf]
/- A method that lays nodes and keeps to p. -/
def PNy (f : Nat) (B : Nat) (ts : List Tp) (rb : Nat) (tv : Value) (o : Nat) (p : PN) : Prop := ∀ (w : World) (sv : Value) (E : Int) (i : Nat) (qs : List Nd), (17 ≤ o → ¬ E = 0) → Ry B ts w rb tv sv E o i qs → Calls Tryz.prog f #[dp rb] w (Y2 B ts rb tv sv o w (lf E i (p i (qs.map (·.np)))))
set_option maxRecDepth 100000 in
set_option maxHeartbeats 4000000 in
theorem rboth_any {p : PN} (hp : PNy 98 B ts rb tv o p) (hg : GoN ts p) (hO : 17 ≤ o → ¬ E = 0) (h : Ry B ts w rb tv sv E o i qs) : Calls Tryz.prog 62 #[dp rb] w (Y2 B ts rb tv sv o w (lf E i (chainS ts wAnd 11 p i (qs.map (·.np))))) := by
  have HP := hid hp
  have HG := hid hg
  have HC := hid (hp w sv E i qs hO h)
  have HO := hid hO
  have htl := h.tl
  clear hp hg h hO
  obtain ⟨T, hT⟩ : ∃ T, lf E i (chainS ts wAnd 11 p i (qs.map (·.np))) = T := ⟨_, rfl⟩
  rw [hT]
  have HT := hid hT
  clear hT
  have M1 : Hid True := trivial
  go_enter Tryz.func62, Tryz.ntmps62
  go_wp2_with (go_at_call 98; clear M1; refine HC.out.mono ?_; rintro e w1 ⟨hk, z1, E1, j1, sv1, qs1, rfl, hz1, hq, ha, hc⟩; have HK1 := hid hk; have HQ1 := hid hq; have HC1 := hid hc; have HA1 := hid ha; have hz1a := hz1.1; have hz1b := hz1.2; clear hk hq hc ha hz1)
  have HI1 : Hid (InvC ts wAnd 11 p T ts.length z1 j1 (qs1.map (·.np)) E1) := by show InvC _ _ _ _ _ _ _ _ _ _; rw [← HT.out]; exact inv_start HG.out HC1.out
  have HO1 : Hid (17 ≤ o → ¬ E1 = 0) := fun h17 => cm2_ne (HO.out h17) HC1.out
  clear HC1 HT HC HO
  go_loopw [3] (fun u wr => ∃ (f : Nat) (z : Int) (j : Nat) (Ej : Int) (sv' : Value) (qs' : List Nd), Hid (InvC ts wAnd 11 p T f z j (qs'.map (·.np)) Ej) ∧ Hid (17 ≤ o → ¬ Ej = 0) ∧ u = .int .i64 z ∧ -1 ≤ z ∧ z ≤ 1024 ∧ Hid (Ry B ts wr rb tv sv' Ej o j qs') ∧ Hid (Kp (Tq rb sv) w wr) ∧ Hid (At w sv sv')) (fun _ wr => msr rb ts wr)
  case atStart => exact ⟨ts.length, z1, j1, E1, sv1, qs1, HI1.out, HO1.out, rfl, hz1a, hz1b, HQ1.out, HK1.out, HA1.out⟩
  case round =>
    obtain ⟨f, z, j, Ej, sv', qs', HI, HOr, rfl, hza, hzb, HQr, HKr, HAr⟩ := hrel
    clear HI1 HQ1 HK1 HA1 hz1a hz1b HO1
    have HS := hid (rsees_any HQr.out wAnd)
    cases hw : isE Ej ts j wAnd with
    | true =>
      rw [hw] at HS
      have hE := isE_E hw
      subst hE
      have HO16 := hid (show o < 17 from Nat.lt_of_not_le fun h => HOr.out h rfl)
      clear HOr
      obtain ⟨f', a, rfl, HT2⟩ := inv_more HI.out (isE_W hw)
      have HT3 := hid HT2
      have HLt := hid (isE_lt hw)
      clear hw HI HT2
      go_wp2_with (first
        | (go_at_call 56; refine HS.out.mono ?_; rintro e w3 ⟨rfl, hq, hk⟩; have HQ3 := hid hq; have HK3 := hid (HKr.out.next HAr.out hk.r); clear hq hk)
        | (go_at_call 98; refine (HP.out _ _ _ _ _ (fun h17 => absurd HO16.out (by omega)) HQ3.out).mono ?_; rintro e w4 ⟨hk, z4, E4, j4, sv4, qs4, rfl, hz4, hq, ha, hc⟩; have HK4 := hid (HK3.out.next HAr.out hk); have HQ4 := hid hq; have HC4 := hid hc; have HA4 := hid (HAr.out.trans ha HK3.out.size); have hz4a := hz4.1; have hz4b := hz4.2; have HLl : Hid (E4 = 0 → qs4.length + 1 ≤ j4) := (fun e => part_len HG.out hc e HQr.out.ql); clear hk hq hc ha hz4)
        | (go_at_call 57; refine (rlay_any (q := nam2 w4 { n0 with kind := 11, l := [(a : Int), z4] }) (HQ4.out.on ((Below.refl _ _).alloc (Nat.le_refl _) _)) (nam2_in HQ4.out.B_le rfl rfl rfl) HLl.out).mono ?_; rintro e w5 ⟨hk, z5, E5, j5, sv5, qs5, rfl, hz5, hq, ha, hc⟩; have HQ5 := hid hq; have HC5 := hid hc; have HK5 := hid (HK4.out.next HA4.out ((Kp.alloc _ _ _).trans hk)); have HA5 := hid (HA4.out.trans ha (Nat.le_trans HK4.out.size (by simp))); have hz5a := hz5.1; have hz5b := hz5.2; clear hq ha hk hc hz5))
      have HI5 := inv_next HG.out HT3.out (by have := HC4.out; simp only [if_true] at this; exact this) HC5.out HLt.out
      go_roundw
      case rel => exact ⟨f', z5, j5, E5, sv5, qs5, HI5.1, fun h17 => absurd HO16.out (by omega), rfl, hz5a, hz5b, HQ5.out, HK5.out, HA5.out⟩
      case measure =>
        rw [HQ5.out.msr, HQr.out.msr, if_pos rfl]
        split
        · have := HI5.2 (by assumption); have := HQ5.out.il; omega
        · have := HLt.out; omega
    | false =>
      rw [hw] at HS
      have HM2 : Hid (Cm2 T z (qs'.map (·.np)) j Ej) := inv_end HI.out (fun e => isE_false hw e)
      clear hw HI
      go_wp2_with (go_at_call 56; refine HS.out.mono ?_; rintro e w3 ⟨rfl, hq, hk⟩; have HQ3 := hid hq; have HK3 := hid (HKr.out.next HAr.out hk.r); clear hq hk)
      go_ret
      exact ⟨HK3.out, z, Ej, j, sv', qs', rfl, ⟨hza, hzb⟩, HQ3.out, HAr.out, HM2.out⟩
set_option maxRecDepth 100000 in
set_option maxHeartbeats 4000000 in
theorem rcond_any {p : PN} (hp : PNy 62 B ts rb tv o p) (hg : GoN ts p) (hO : 17 ≤ o → ¬ E = 0) (h : Ry B ts w rb tv sv E o i qs) : Calls Tryz.prog 34 #[dp rb] w (Y2 B ts rb tv sv o w (lf E i (chainS ts wOr 12 p i (qs.map (·.np))))) := by
  have HP := hid hp
  have HG := hid hg
  have HC := hid (hp w sv E i qs hO h)
  have HO := hid hO
  have htl := h.tl
  clear hp hg h hO
  obtain ⟨T, hT⟩ : ∃ T, lf E i (chainS ts wOr 12 p i (qs.map (·.np))) = T := ⟨_, rfl⟩
  rw [hT]
  have HT := hid hT
  clear hT
  have M1 : Hid True := trivial
  go_enter Tryz.func34, Tryz.ntmps34
  go_wp2_with (go_at_call 62; clear M1; refine HC.out.mono ?_; rintro e w1 ⟨hk, z1, E1, j1, sv1, qs1, rfl, hz1, hq, ha, hc⟩; have HK1 := hid hk; have HQ1 := hid hq; have HC1 := hid hc; have HA1 := hid ha; have hz1a := hz1.1; have hz1b := hz1.2; clear hk hq hc ha hz1)
  have HI1 : Hid (InvC ts wOr 12 p T ts.length z1 j1 (qs1.map (·.np)) E1) := by show InvC _ _ _ _ _ _ _ _ _ _; rw [← HT.out]; exact inv_start HG.out HC1.out
  have HO1 : Hid (17 ≤ o → ¬ E1 = 0) := fun h17 => cm2_ne (HO.out h17) HC1.out
  clear HC1 HT HC HO
  go_loopw [3] (fun u wr => ∃ (f : Nat) (z : Int) (j : Nat) (Ej : Int) (sv' : Value) (qs' : List Nd), Hid (InvC ts wOr 12 p T f z j (qs'.map (·.np)) Ej) ∧ Hid (17 ≤ o → ¬ Ej = 0) ∧ u = .int .i64 z ∧ -1 ≤ z ∧ z ≤ 1024 ∧ Hid (Ry B ts wr rb tv sv' Ej o j qs') ∧ Hid (Kp (Tq rb sv) w wr) ∧ Hid (At w sv sv')) (fun _ wr => msr rb ts wr)
  case atStart => exact ⟨ts.length, z1, j1, E1, sv1, qs1, HI1.out, HO1.out, rfl, hz1a, hz1b, HQ1.out, HK1.out, HA1.out⟩
  case round =>
    obtain ⟨f, z, j, Ej, sv', qs', HI, HOr, rfl, hza, hzb, HQr, HKr, HAr⟩ := hrel
    clear HI1 HQ1 HK1 HA1 hz1a hz1b HO1
    have HS := hid (rsees_any HQr.out wOr)
    cases hw : isE Ej ts j wOr with
    | true =>
      rw [hw] at HS
      have hE := isE_E hw
      subst hE
      have HO16 := hid (show o < 17 from Nat.lt_of_not_le fun h => HOr.out h rfl)
      clear HOr
      obtain ⟨f', a, rfl, HT2⟩ := inv_more HI.out (isE_W hw)
      have HT3 := hid HT2
      have HLt := hid (isE_lt hw)
      clear hw HI HT2
      go_wp2_with (first
        | (go_at_call 56; refine HS.out.mono ?_; rintro e w3 ⟨rfl, hq, hk⟩; have HQ3 := hid hq; have HK3 := hid (HKr.out.next HAr.out hk.r); clear hq hk)
        | (go_at_call 62; refine (HP.out _ _ _ _ _ (fun h17 => absurd HO16.out (by omega)) HQ3.out).mono ?_; rintro e w4 ⟨hk, z4, E4, j4, sv4, qs4, rfl, hz4, hq, ha, hc⟩; have HK4 := hid (HK3.out.next HAr.out hk); have HQ4 := hid hq; have HC4 := hid hc; have HA4 := hid (HAr.out.trans ha HK3.out.size); have hz4a := hz4.1; have hz4b := hz4.2; have HLl : Hid (E4 = 0 → qs4.length + 1 ≤ j4) := (fun e => part_len HG.out hc e HQr.out.ql); clear hk hq hc ha hz4)
        | (go_at_call 57; refine (rlay_any (q := nam2 w4 { n0 with kind := 12, l := [(a : Int), z4] }) (HQ4.out.on ((Below.refl _ _).alloc (Nat.le_refl _) _)) (nam2_in HQ4.out.B_le rfl rfl rfl) HLl.out).mono ?_; rintro e w5 ⟨hk, z5, E5, j5, sv5, qs5, rfl, hz5, hq, ha, hc⟩; have HQ5 := hid hq; have HC5 := hid hc; have HK5 := hid (HK4.out.next HA4.out ((Kp.alloc _ _ _).trans hk)); have HA5 := hid (HA4.out.trans ha (Nat.le_trans HK4.out.size (by simp))); have hz5a := hz5.1; have hz5b := hz5.2; clear hq ha hk hc hz5))
      have HI5 := inv_next HG.out HT3.out (by have := HC4.out; simp only [if_true] at this; exact this) HC5.out HLt.out
      go_roundw
      case rel => exact ⟨f', z5, j5, E5, sv5, qs5, HI5.1, fun h17 => absurd HO16.out (by omega), rfl, hz5a, hz5b, HQ5.out, HK5.out, HA5.out⟩
      case measure =>
        rw [HQ5.out.msr, HQr.out.msr, if_pos rfl]
        split
        · have := HI5.2 (by assumption); have := HQ5.out.il; omega
        · have := HLt.out; omega
    | false =>
      rw [hw] at HS
      have HM2 : Hid (Cm2 T z (qs'.map (·.np)) j Ej) := inv_end HI.out (fun e => isE_false hw e)
      clear hw HI
      go_wp2_with (go_at_call 56; refine HS.out.mono ?_; rintro e w3 ⟨rfl, hq, hk⟩; have HQ3 := hid hq; have HK3 := hid (HKr.out.next HAr.out hk.r); clear hq hk)
      go_ret
      exact ⟨HK3.out, z, Ej, j, sv', qs', rfl, ⟨hza, hzb⟩, HQ3.out, HAr.out, HM2.out⟩
end
end Go.Proofs.YtomnjckbgmbgmaaGreatDoor
namespace Go.Proofs.YtomnjckbgmbgmaaGreatDoor
open Go.RowKit Go.Joins

section
variable {B : Nat} {ts : List Tp} {w w' : World} {rb : Nat} {tv sv : Value} {E : Int} {o i : Nat} {qs : List Nd}
set_option maxRecDepth 100000 in
set_option maxHeartbeats 1000000 in
theorem rnot_err (h : Ry B ts w rb tv sv E o i qs) (hE : ¬ E = 0) : Calls Tryz.prog 98 #[dp rb] w fun e w' => e = .returned (.int .i64 0) ∧ w' = w := by
  have k0 := h.cell
  have bE : (E != 0) = true := by simp [hE]
  clear h hE
  go_enter Tryz.func98, Tryz.ntmps98
  go_wp2_with fail
  go_ret
  exact ⟨rfl, rfl⟩
/- What may stand within, of the reference's. -/
def DeepY (F : Nat) (B : Nat) (ts : List Tp) (rb : Nat) (tv : Value) (o : Nat) : Option PN → Prop
  | none => o = 16
  | some p => o < 16 ∧ PNy F B ts rb tv (o + 1) p ∧ GoN ts p
theorem not_fin {ts : List Tp} {p : PN} {i j j5 : Nat} {z z5 E E5 : Int} {ns : List Np} {qs1 qs5 : List Nd} (hw : isW ts i wNot = true) (h : Cm2 (lf 0 (i + 1) (p (i + 1) ns)) z (qs1.map (·.np)) j E) (h5 : Cm2 (lf E j (.ok (qs1.length, qs1.map (·.np) ++ [{ n0 with kind := 13, l := [z] }]) j)) z5 (qs5.map (·.np)) j5 E5) : Cm2 (lf 0 i (notB ts (some p) i ns)) z5 (qs5.map (·.np)) j5 E5 := by
  have e0 : lf 0 i (notB ts (some p) i ns) = (p (i + 1) ns).and fun r j => .ok (r.2.length, r.2 ++ [{ n0 with kind := 13, l := [(r.1 : Int)] }]) j := by
    unfold lf notB; rw [if_pos rfl, if_pos hw]
  rw [e0]
  rcases h with ⟨h, hn⟩ | ⟨b, rfl, h, rfl⟩
  · unfold lf at h h5; rw [if_pos rfl] at h; rw [if_neg hn] at h5
    rw [h]; exact h5
  · unfold lf at h h5; rw [if_pos rfl] at h h5
    rw [h]; simpa [Rs.and] using h5
end
end Go.Proofs.YtomnjckbgmbgmaaGreatDoor
namespace Go.Proofs.YtomnjckbgmbgmaaGreatDoor
open Go.RowKit Go.Joins

section
variable {B : Nat} {ts : List Tp} {w w' : World} {rb : Nat} {tv sv : Value} {E : Int} {o i : Nat} {qs : List Nd}
theorem rdeeper_long (h : Ry B ts w rb tv sv 0 o (i + 1) qs) (hl : qs.length + 1 ≤ i + 1) (ho : o = 16) : Calls Tryz.prog 96 #[dp rb] w fun e w' => e = .returned (.tuple #[]) ∧ Kp (fun k => k = rb) w w' ∧ Ry B ts w' rb tv sv 2 (o + 1) i qs := by
  refine (rdeeper_any h hl (by omega)).mono ?_
  rintro e w2 ⟨rfl, hk, ⟨he, hq⟩ | ⟨-, ho2, hq⟩ | ⟨-, ho2, hq⟩⟩
  · exact absurd rfl he
  · exact ⟨rfl, hk, hq⟩
  · omega
theorem rdeeper_ok (h : Ry B ts w rb tv sv 0 o (i + 1) qs) (hl : qs.length + 1 ≤ i + 1) (ho : o < 16) : Calls Tryz.prog 96 #[dp rb] w fun e w' => e = .returned (.tuple #[]) ∧ Kp (fun k => k = rb) w w' ∧ Ry B ts w' rb tv sv 0 (o + 1) (i + 1) qs := by
  refine (rdeeper_any h hl (by omega)).mono ?_
  rintro e w2 ⟨rfl, hk, ⟨he, hq⟩ | ⟨-, ho2, hq⟩ | ⟨-, ho2, hq⟩⟩
  · exact absurd rfl he
  · omega
  · exact ⟨rfl, hk, hq⟩
theorem part_len' {p : PN} {j j4 : Nat} {z4 E4 : Int} {qs' qs4 : List Nd} (hg : GoN ts p) (h : Cm2 (lf 0 (j + 1) (p (j + 1) (qs'.map (·.np)))) z4 (qs4.map (·.np)) j4 E4) (hE : E4 = 0) (hl : qs'.length ≤ j) : qs4.length + 1 ≤ j4 := part_len hg (by simpa using h) hE hl
set_option maxRecDepth 100000 in
set_option maxHeartbeats 400000 in
theorem rnot_not0 (ho : o = 16) (h : Ry B ts w rb tv sv 0 o i qs) (hw : isW ts i wNot = true) : Calls Tryz.prog 98 #[dp rb] w (Y2 B ts rb tv sv o w (lf 0 i (notB ts none i (qs.map (·.np))))) := by
  have k0 := h.cell
  have HQL := hid h.ql
  have HW := hid hw
  have hs := rsees_any h wNot
  have e1 : isE 0 ts i wNot = true := by unfold isE; rw [hw]; rfl
  rw [e1] at hs
  have HS := hid hs
  have hk0 : ((o : Int) + 1) - 1 = o := by omega
  have o0 : (0 : Int) ≤ o := by omega
  have o1 : (o : Int) ≤ 17 := by have := h.ol; omega
  have HO16 := hid ho
  generalize hT : lf 0 i (notB ts none i (qs.map (·.np))) = T at *
  have HTt := hid hT
  clear h hw hs e1 hT ho
  go_enter Tryz.func98, Tryz.ntmps98
  go_upto_region 7 with (first
    | (go_at_call 56; refine HS.out.mono ?_; rintro e w1 ⟨rfl, hq, hk⟩; simp only [if_true] at hq; have HQ1 := hid hq; have HK1 := hid hk; clear hq hk)
    | (go_at_call 96; refine (rdeeper_long HQ1.out (by have := HQL.out; omega) HO16.out).mono ?_; rintro e w2 ⟨rfl, hk, hq⟩; have HQ2 := hid hq; have HK2 := hid (HK1.out.trans hk); have k2 := hq.cell; have z2 := hq.frozen; simp only [Int.natCast_add, Int.cast_ofNat_Int] at k2; clear hq hk)
    | (go_at_call 98; refine (rnot_err HQ2.out (by decide)).mono ?_; rintro e w3 ⟨rfl, he⟩; replace he := he.symm; subst he))
  have HQ6 := hid (Ry.less HQ2.out)
  have HK6 := hid (HK2.out.trans (Kp.set (T := fun k => k = rb) (w := w2) (b := rb) (i := 4) rfl (.int .i64 (o : Int))))
  clear k2 z2 k0
  generalize w2.setCell ⟨rb, 4, none⟩ (.int .i64 (o : Int)) = W6 at *
  go_wp2_with (go_at_call 57; refine (rlay_any (q := nam1 W6 { n0 with kind := 13, l := [0] }) (HQ6.out.on ((Below.refl _ _).alloc (Nat.le_refl _) _)) (nam1_in HQ6.out.B_le rfl rfl rfl) (fun e => absurd e (by decide))).mono ?_; rintro e w5 ⟨hk, z5, E5, j5, sv5, qs5, rfl, hz5, hq, ha, hc⟩; have HQ5 := hid hq; have HC5 := hid hc; have HK5 := hid (HK6.out.r.trans ((Kp.alloc (Tq rb sv) W6 (.cells #[.int .i64 0] 3)).trans hk)); have HA5 := hid ((At.refl w sv).trans ha (Nat.le_trans HK6.out.size (by simp))); have HZ5 := hid hz5; clear hq ha hk hc hz5)
  go_ret
  refine ⟨HK5.out, z5, E5, j5, sv5, qs5, rfl, HZ5.out, HQ5.out, HA5.out, ?_⟩
  have e0 : lf 0 i (notB ts none i (qs.map (·.np))) = .bad i 2 := by unfold lf notB; rw [if_pos rfl, if_pos HW.out]
  rw [← HTt.out, e0]
  have h5 := HC5.out
  unfold lf at h5; rw [if_neg (by decide)] at h5
  exact h5
set_option maxRecDepth 100000 in
set_option maxHeartbeats 400000 in
theorem rnot_not1 {p : PN} (ho : o < 16) (hp : PNy 98 B ts rb tv (o + 1) p) (hg : GoN ts p) (h : Ry B ts w rb tv sv 0 o i qs) (hw : isW ts i wNot = true) : Calls Tryz.prog 98 #[dp rb] w (Y2 B ts rb tv sv o w (lf 0 i (notB ts (some p) i (qs.map (·.np))))) := by
  have k0 := h.cell
  have HQL := hid h.ql
  have HW := hid hw
  have HP := hid hp
  have HG := hid hg
  have hs := rsees_any h wNot
  have e1 : isE 0 ts i wNot = true := by unfold isE; rw [hw]; rfl
  rw [e1] at hs
  have HS := hid hs
  have hk0 : ((o : Int) + 1) - 1 = o := by omega
  have o0 : (0 : Int) ≤ o := by omega
  have o1 : (o : Int) ≤ 17 := by have := h.ol; omega
  have HO16 := hid ho
  generalize hT : lf 0 i (notB ts (some p) i (qs.map (·.np))) = T at *
  have HTt := hid hT
  clear h hw hs e1 hT ho hp hg
  go_enter Tryz.func98, Tryz.ntmps98
  go_upto_region 7 with (first
    | (go_at_call 56; refine HS.out.mono ?_; rintro e w1 ⟨rfl, hq, hk⟩; simp only [if_true] at hq; have HQ1 := hid hq; have HK1 := hid hk; clear hq hk)
    | (go_at_call 96; refine (rdeeper_ok HQ1.out (by have := HQL.out; omega) HO16.out).mono ?_; rintro e w2 ⟨rfl, hk, hq⟩; have HQ2 := hid hq; have HK2 := hid (HK1.out.trans hk); clear hq hk)
    | (go_at_call 98; refine (HP.out _ _ _ _ _ (fun h17 => absurd HO16.out (by omega)) HQ2.out).mono ?_; rintro e w3 ⟨hk, z3, E3, j3, sv3, qs3, rfl, hz3, hq, ha, hc⟩; have HK3 := hid (HK2.out.r.next (At.refl w sv) hk); have HQ3 := hid hq; have HC3 := hid hc; have HA3 := hid ((At.refl w sv).trans ha HK2.out.size); have hz3a := hz3.1; have hz3b := hz3.2; have HLl : Hid (E3 = 0 → qs3.length + 1 ≤ j3) := (fun e => part_len' HG.out hc e HQL.out); have k2 := hq.cell; have z2 := hq.frozen; simp only [Int.natCast_add, Int.cast_ofNat_Int] at k2; clear hk hq hc ha hz3))
  have HQ6 := hid (Ry.less HQ3.out)
  have HK6 := hid (HK3.out.next HA3.out (Kp.set (T := fun k => k = rb) (w := w3) (b := rb) (i := 4) rfl (.int .i64 (o : Int))).r)
  clear k2 z2 k0
  generalize w3.setCell ⟨rb, 4, none⟩ (.int .i64 (o : Int)) = W6 at *
  go_wp2_with (go_at_call 57; refine (rlay_any (q := nam1 W6 { n0 with kind := 13, l := [z3] }) (HQ6.out.on ((Below.refl _ _).alloc (Nat.le_refl _) _)) (nam1_in HQ6.out.B_le rfl rfl rfl) HLl.out).mono ?_; rintro e w5 ⟨hk, z5, E5, j5, sv5, qs5, rfl, hz5, hq, ha, hc⟩; have HQ5 := hid hq; have HC5 := hid hc; have HK5 := hid (HK6.out.next HA3.out ((Kp.alloc (Tq rb sv3) W6 (.cells #[.int .i64 z3] 3)).trans hk)); have HA5 := hid (HA3.out.trans ha (Nat.le_trans HK6.out.size (by simp))); have HZ5 := hid hz5; clear hq ha hk hc hz5)
  go_ret
  refine ⟨HK5.out, z5, E5, j5, sv5, qs5, rfl, HZ5.out, HQ5.out, HA5.out, ?_⟩
  rw [← HTt.out]
  exact not_fin HW.out HC3.out HC5.out
theorem rnot_not {d : Option PN} (hd : DeepY 98 B ts rb tv o d) (h : Ry B ts w rb tv sv 0 o i qs) (hw : isW ts i wNot = true) : Calls Tryz.prog 98 #[dp rb] w (Y2 B ts rb tv sv o w (lf 0 i (notB ts d i (qs.map (·.np))))) := by
  cases d with
  | none => exact rnot_not0 hd h hw
  | some p => exact rnot_not1 hd.1 hd.2.1 hd.2.2 h hw
end
end Go.Proofs.YtomnjckbgmbgmaaGreatDoor
