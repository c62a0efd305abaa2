/-
  A step: a node's test is held.
  All steps, for a row.
  The nodes that a node stands on.
  What a node stands on, as it is told.
-/
import Derived.Test.YtjekpclbedbaoaaKS16
import Derived.Deep.RegionHeld3
namespace Go.Proofs.Ytjekpclbedbaoaa.PD
open Go.RowKit Go.Joins

abbrev S3' (b1 b2 b3 hd : Nat) (v1 v2 v3 : Value) (w : World) : Prop := w.cell? ⟨b1, 0, none⟩ = some v1 ∧ w.cell? ⟨b2, 0, none⟩ = some v2 ∧ w.cell? ⟨b3, 0, none⟩ = some v3 ∧ (b1 ≠ hd ∧ b2 ≠ hd ∧ b3 ≠ hd)
theorem s3B' {b1 b2 b3 hd : Nat} {v1 v2 v3 : Value} {w w' : World} (h : S3' b1 b2 b3 hd v1 v2 v3 w) (hb : Below w.heap.size w w') : S3' b1 b2 b3 hd v1 v2 v3 w' := by
  obtain ⟨h1, h2, h3, h4⟩ := h
  exact ⟨(hb.cell (p := ⟨b1, 0, none⟩) (block_lt_of_cell h1)).trans h1, (hb.cell (p := ⟨b2, 0, none⟩) (block_lt_of_cell h2)).trans h2, (hb.cell (p := ⟨b3, 0, none⟩) (block_lt_of_cell h3)).trans h3, h4⟩
theorem s3D' {b1 b2 b3 hd : Nat} {v1 v2 v3 : Value} {w : World} (h : S3' b1 b2 b3 hd v1 v2 v3 w) : S3' b1 b2 b3 hd v1 v2 v3 w.drew := h
theorem s3S' {b1 b2 b3 hd a : Nat} {v1 v2 v3 v : Value} {w : World} (h : S3' b1 b2 b3 hd v1 v2 v3 w) : S3' b1 b2 b3 hd v1 v2 v3 (w.setCell ⟨hd, a, none⟩ v) := by
  obtain ⟨h1, h2, h3, h4⟩ := h
  have k : Kp (fun k => k = hd) w (w.setCell ⟨hd, a, none⟩ v) := Kp.set (T := fun k => k = hd) rfl _
  exact ⟨k.cell h1 (fun e => h4.1 e), k.cell h2 (fun e => h4.2.1 e), k.cell h3 (fun e => h4.2.2 e), h4⟩
theorem Hd.frozen {w : World} {hd : Nat} {hs : List Bool} (h : Hd w hd hs) (a : Nat) : w.frozen? ⟨hd, a, none⟩ = false := block_frozen h a
def StP (hd : Nat) (hs : List Bool) (a : Nat) (r : Bool) (w : World) (e : Ending) (w' : World) : Prop := e = .returned (.tuple #[]) ∧ Hd w' hd (hs.set a r) ∧ Kp (fun k => k = hd) w w'
set_option maxRecDepth 100000 in
set_option maxHeartbeats 4000000 in
theorem c1_never {tb hvb ab hd a : Nat} {hs : List Bool} {w : World} {rv : Value} {r : Bool} (h1 : w.cell? ⟨tb, 0, none⟩ = some (.func (.func 58) #[] #[])) (h2 : w.cell? ⟨hvb, 0, none⟩ = some (slB hd hs.length)) (h3 : w.cell? ⟨ab, 0, none⟩ = some (.int .i64 (a : Int))) (hn : tb ≠ hd ∧ hvb ≠ hd ∧ ab ≠ hd) (hH : Hd w hd hs) (ha : a < hs.length) (hC : ∀ W, Below w.heap.size w W → Calls Try.prog 58 #[rv] W fun e w' => e = .returned (.bool r) ∧ Below W.heap.size W w') : Calls Try.prog 61 #[rv, dp tb, dp hvb, dp ab] w (StP hd hs a r w) := by
  have hS0 : S3' tb hvb ab hd (.func (.func 58) #[] #[]) (slB hd hs.length) (.int .i64 (a : Int)) w := ⟨h1, h2, h3, hn⟩
  have hSx : Hid (∀ W, Below w.heap.size w W → S3' tb hvb ab hd (.func (.func 58) #[] #[]) (slB hd hs.length) (.int .i64 (a : Int)) W) := fun W hb => s3B' hS0 hb
  have HC := hid hC
  have HB0 : Hid (Below w.heap.size w w.drew) := (Below.refl _ _).drew
  have ha' : (a : Int) < hs.length := by omega
  have ha0 : (0 : Int) ≤ a := by omega
  have HP : Hid (∀ W, Below w.heap.size w W → StP hd hs a r w (.returned (.tuple #[])) (W.setCell ⟨hd, a, none⟩ (.bool r))) := fun W hb => ⟨rfl, (hH.on hb).set a r, (Kp.of hb).trans (Kp.set (T := fun k => k = hd) rfl _)⟩
  have HCx : Hid (∀ W, Below w.heap.size w W → W.cell? ⟨hd, a, none⟩ = some (.bool (hsAt hs a))) := fun W hb => (hH.on hb).cell ha
  have HZx : Hid (∀ W, Below w.heap.size w W → W.frozen? ⟨hd, a, none⟩ = false) := fun W hb => (hH.on hb).frozen a
  generalize hs.length = n at *
  generalize hsAt hs a = u0 at *
  clear h1 h2 h3 hn hH ha hC
  go_enter Try.func61, Try.ntmps61
  go_region_held3 (S3' tb hvb ab hd (.func (.func 58) #[] #[]) (slB hd n) (.int .i64 (a : Int))) (((repeat (first | (with_reducible refine s3D' ?_) | (with_reducible refine s3S' ?_))); (with_reducible assumption)))
    (first | (go_at_call 58; refine (HC.out _ HB0.out).mono ?_; rintro e w5 ⟨rfl, hb⟩; have HB5 := hid (HB0.out.trans (hb.mono HB0.out.size)); have hS5 := hSx.out _ HB5.out; have c5 := HCx.out _ HB5.out; have z5 := HZx.out _ HB5.out; clear hb))
  all_goals
    (go_end0
     exact HP.out _ HB5.out)
set_option maxRecDepth 100000 in
set_option maxHeartbeats 4000000 in
theorem c1_of {tb hvb ab hd a : Nat} {hs : List Bool} {w : World} {rv : Value} {r : Bool} {c0 : Nat} {c1 : Nat} (h1 : w.cell? ⟨tb, 0, none⟩ = some (.func (.func 99) #[] #[dp c0, dp c1])) (h2 : w.cell? ⟨hvb, 0, none⟩ = some (slB hd hs.length)) (h3 : w.cell? ⟨ab, 0, none⟩ = some (.int .i64 (a : Int))) (hn : tb ≠ hd ∧ hvb ≠ hd ∧ ab ≠ hd) (hH : Hd w hd hs) (ha : a < hs.length) (hC : ∀ W, Below w.heap.size w W → Calls Try.prog 99 #[rv, dp c0, dp c1] W fun e w' => e = .returned (.bool r) ∧ Below W.heap.size W w') : Calls Try.prog 61 #[rv, dp tb, dp hvb, dp ab] w (StP hd hs a r w) := by
  have hS0 : S3' tb hvb ab hd (.func (.func 99) #[] #[dp c0, dp c1]) (slB hd hs.length) (.int .i64 (a : Int)) w := ⟨h1, h2, h3, hn⟩
  have hSx : Hid (∀ W, Below w.heap.size w W → S3' tb hvb ab hd (.func (.func 99) #[] #[dp c0, dp c1]) (slB hd hs.length) (.int .i64 (a : Int)) W) := fun W hb => s3B' hS0 hb
  have HC := hid hC
  have HB0 : Hid (Below w.heap.size w w.drew) := (Below.refl _ _).drew
  have ha' : (a : Int) < hs.length := by omega
  have ha0 : (0 : Int) ≤ a := by omega
  have HP : Hid (∀ W, Below w.heap.size w W → StP hd hs a r w (.returned (.tuple #[])) (W.setCell ⟨hd, a, none⟩ (.bool r))) := fun W hb => ⟨rfl, (hH.on hb).set a r, (Kp.of hb).trans (Kp.set (T := fun k => k = hd) rfl _)⟩
  have HCx : Hid (∀ W, Below w.heap.size w W → W.cell? ⟨hd, a, none⟩ = some (.bool (hsAt hs a))) := fun W hb => (hH.on hb).cell ha
  have HZx : Hid (∀ W, Below w.heap.size w W → W.frozen? ⟨hd, a, none⟩ = false) := fun W hb => (hH.on hb).frozen a
  generalize hs.length = n at *
  generalize hsAt hs a = u0 at *
  clear h1 h2 h3 hn hH ha hC
  go_enter Try.func61, Try.ntmps61
  go_region_held3 (S3' tb hvb ab hd (.func (.func 99) #[] #[dp c0, dp c1]) (slB hd n) (.int .i64 (a : Int))) (((repeat (first | (with_reducible refine s3D' ?_) | (with_reducible refine s3S' ?_))); (with_reducible assumption)))
    (first | (go_at_call 99; refine (HC.out _ HB0.out).mono ?_; rintro e w5 ⟨rfl, hb⟩; have HB5 := hid (HB0.out.trans (hb.mono HB0.out.size)); have hS5 := hSx.out _ HB5.out; have c5 := HCx.out _ HB5.out; have z5 := HZx.out _ HB5.out; clear hb))
  all_goals
    (go_end0
     exact HP.out _ HB5.out)
set_option maxRecDepth 100000 in
set_option maxHeartbeats 4000000 in
theorem c1_t3 {tb hvb ab hd a : Nat} {hs : List Bool} {w : World} {rv : Value} {r : Bool} {c0 : Nat} {c1 : Nat} (h1 : w.cell? ⟨tb, 0, none⟩ = some (.func (.func 79) #[] #[dp c0, dp c1])) (h2 : w.cell? ⟨hvb, 0, none⟩ = some (slB hd hs.length)) (h3 : w.cell? ⟨ab, 0, none⟩ = some (.int .i64 (a : Int))) (hn : tb ≠ hd ∧ hvb ≠ hd ∧ ab ≠ hd) (hH : Hd w hd hs) (ha : a < hs.length) (hC : ∀ W, Below w.heap.size w W → Calls Try.prog 79 #[rv, dp c0, dp c1] W fun e w' => e = .returned (.bool r) ∧ Below W.heap.size W w') : Calls Try.prog 61 #[rv, dp tb, dp hvb, dp ab] w (StP hd hs a r w) := by
  have hS0 : S3' tb hvb ab hd (.func (.func 79) #[] #[dp c0, dp c1]) (slB hd hs.length) (.int .i64 (a : Int)) w := ⟨h1, h2, h3, hn⟩
  have hSx : Hid (∀ W, Below w.heap.size w W → S3' tb hvb ab hd (.func (.func 79) #[] #[dp c0, dp c1]) (slB hd hs.length) (.int .i64 (a : Int)) W) := fun W hb => s3B' hS0 hb
  have HC := hid hC
  have HB0 : Hid (Below w.heap.size w w.drew) := (Below.refl _ _).drew
  have ha' : (a : Int) < hs.length := by omega
  have ha0 : (0 : Int) ≤ a := by omega
  have HP : Hid (∀ W, Below w.heap.size w W → StP hd hs a r w (.returned (.tuple #[])) (W.setCell ⟨hd, a, none⟩ (.bool r))) := fun W hb => ⟨rfl, (hH.on hb).set a r, (Kp.of hb).trans (Kp.set (T := fun k => k = hd) rfl _)⟩
  have HCx : Hid (∀ W, Below w.heap.size w W → W.cell? ⟨hd, a, none⟩ = some (.bool (hsAt hs a))) := fun W hb => (hH.on hb).cell ha
  have HZx : Hid (∀ W, Below w.heap.size w W → W.frozen? ⟨hd, a, none⟩ = false) := fun W hb => (hH.on hb).frozen a
  generalize hs.length = n at *
  generalize hsAt hs a = u0 at *
  clear h1 h2 h3 hn hH ha hC
  go_enter Try.func61, Try.ntmps61
  go_region_held3 (S3' tb hvb ab hd (.func (.func 79) #[] #[dp c0, dp c1]) (slB hd n) (.int .i64 (a : Int))) (((repeat (first | (with_reducible refine s3D' ?_) | (with_reducible refine s3S' ?_))); (with_reducible assumption)))
    (first | (go_at_call 79; refine (HC.out _ HB0.out).mono ?_; rintro e w5 ⟨rfl, hb⟩; have HB5 := hid (HB0.out.trans (hb.mono HB0.out.size)); have hS5 := hSx.out _ HB5.out; have c5 := HCx.out _ HB5.out; have z5 := HZx.out _ HB5.out; clear hb))
  all_goals
    (go_end0
     exact HP.out _ HB5.out)
set_option maxRecDepth 100000 in
set_option maxHeartbeats 4000000 in
theorem c1_t4 {tb hvb ab hd a : Nat} {hs : List Bool} {w : World} {rv : Value} {r : Bool} {c0 : Nat} {c1 : Nat} (h1 : w.cell? ⟨tb, 0, none⟩ = some (.func (.func 80) #[] #[dp c0, dp c1])) (h2 : w.cell? ⟨hvb, 0, none⟩ = some (slB hd hs.length)) (h3 : w.cell? ⟨ab, 0, none⟩ = some (.int .i64 (a : Int))) (hn : tb ≠ hd ∧ hvb ≠ hd ∧ ab ≠ hd) (hH : Hd w hd hs) (ha : a < hs.length) (hC : ∀ W, Below w.heap.size w W → Calls Try.prog 80 #[rv, dp c0, dp c1] W fun e w' => e = .returned (.bool r) ∧ Below W.heap.size W w') : Calls Try.prog 61 #[rv, dp tb, dp hvb, dp ab] w (StP hd hs a r w) := by
  have hS0 : S3' tb hvb ab hd (.func (.func 80) #[] #[dp c0, dp c1]) (slB hd hs.length) (.int .i64 (a : Int)) w := ⟨h1, h2, h3, hn⟩
  have hSx : Hid (∀ W, Below w.heap.size w W → S3' tb hvb ab hd (.func (.func 80) #[] #[dp c0, dp c1]) (slB hd hs.length) (.int .i64 (a : Int)) W) := fun W hb => s3B' hS0 hb
  have HC := hid hC
  have HB0 : Hid (Below w.heap.size w w.drew) := (Below.refl _ _).drew
  have ha' : (a : Int) < hs.length := by omega
  have ha0 : (0 : Int) ≤ a := by omega
  have HP : Hid (∀ W, Below w.heap.size w W → StP hd hs a r w (.returned (.tuple #[])) (W.setCell ⟨hd, a, none⟩ (.bool r))) := fun W hb => ⟨rfl, (hH.on hb).set a r, (Kp.of hb).trans (Kp.set (T := fun k => k = hd) rfl _)⟩
  have HCx : Hid (∀ W, Below w.heap.size w W → W.cell? ⟨hd, a, none⟩ = some (.bool (hsAt hs a))) := fun W hb => (hH.on hb).cell ha
  have HZx : Hid (∀ W, Below w.heap.size w W → W.frozen? ⟨hd, a, none⟩ = false) := fun W hb => (hH.on hb).frozen a
  generalize hs.length = n at *
  generalize hsAt hs a = u0 at *
  clear h1 h2 h3 hn hH ha hC
  go_enter Try.func61, Try.ntmps61
  go_region_held3 (S3' tb hvb ab hd (.func (.func 80) #[] #[dp c0, dp c1]) (slB hd n) (.int .i64 (a : Int))) (((repeat (first | (with_reducible refine s3D' ?_) | (with_reducible refine s3S' ?_))); (with_reducible assumption)))
    (first | (go_at_call 80; refine (HC.out _ HB0.out).mono ?_; rintro e w5 ⟨rfl, hb⟩; have HB5 := hid (HB0.out.trans (hb.mono HB0.out.size)); have hS5 := hSx.out _ HB5.out; have c5 := HCx.out _ HB5.out; have z5 := HZx.out _ HB5.out; clear hb))
  all_goals
    (go_end0
     exact HP.out _ HB5.out)
set_option maxRecDepth 100000 in
set_option maxHeartbeats 4000000 in
theorem c1_t5 {tb hvb ab hd a : Nat} {hs : List Bool} {w : World} {rv : Value} {r : Bool} {c0 : Nat} {c1 : Nat} (h1 : w.cell? ⟨tb, 0, none⟩ = some (.func (.func 81) #[] #[dp c0, dp c1])) (h2 : w.cell? ⟨hvb, 0, none⟩ = some (slB hd hs.length)) (h3 : w.cell? ⟨ab, 0, none⟩ = some (.int .i64 (a : Int))) (hn : tb ≠ hd ∧ hvb ≠ hd ∧ ab ≠ hd) (hH : Hd w hd hs) (ha : a < hs.length) (hC : ∀ W, Below w.heap.size w W → Calls Try.prog 81 #[rv, dp c0, dp c1] W fun e w' => e = .returned (.bool r) ∧ Below W.heap.size W w') : Calls Try.prog 61 #[rv, dp tb, dp hvb, dp ab] w (StP hd hs a r w) := by
  have hS0 : S3' tb hvb ab hd (.func (.func 81) #[] #[dp c0, dp c1]) (slB hd hs.length) (.int .i64 (a : Int)) w := ⟨h1, h2, h3, hn⟩
  have hSx : Hid (∀ W, Below w.heap.size w W → S3' tb hvb ab hd (.func (.func 81) #[] #[dp c0, dp c1]) (slB hd hs.length) (.int .i64 (a : Int)) W) := fun W hb => s3B' hS0 hb
  have HC := hid hC
  have HB0 : Hid (Below w.heap.size w w.drew) := (Below.refl _ _).drew
  have ha' : (a : Int) < hs.length := by omega
  have ha0 : (0 : Int) ≤ a := by omega
  have HP : Hid (∀ W, Below w.heap.size w W → StP hd hs a r w (.returned (.tuple #[])) (W.setCell ⟨hd, a, none⟩ (.bool r))) := fun W hb => ⟨rfl, (hH.on hb).set a r, (Kp.of hb).trans (Kp.set (T := fun k => k = hd) rfl _)⟩
  have HCx : Hid (∀ W, Below w.heap.size w W → W.cell? ⟨hd, a, none⟩ = some (.bool (hsAt hs a))) := fun W hb => (hH.on hb).cell ha
  have HZx : Hid (∀ W, Below w.heap.size w W → W.frozen? ⟨hd, a, none⟩ = false) := fun W hb => (hH.on hb).frozen a
  generalize hs.length = n at *
  generalize hsAt hs a = u0 at *
  clear h1 h2 h3 hn hH ha hC
  go_enter Try.func61, Try.ntmps61
  go_region_held3 (S3' tb hvb ab hd (.func (.func 81) #[] #[dp c0, dp c1]) (slB hd n) (.int .i64 (a : Int))) (((repeat (first | (with_reducible refine s3D' ?_) | (with_reducible refine s3S' ?_))); (with_reducible assumption)))
    (first | (go_at_call 81; refine (HC.out _ HB0.out).mono ?_; rintro e w5 ⟨rfl, hb⟩; have HB5 := hid (HB0.out.trans (hb.mono HB0.out.size)); have hS5 := hSx.out _ HB5.out; have c5 := HCx.out _ HB5.out; have z5 := HZx.out _ HB5.out; clear hb))
  all_goals
    (go_end0
     exact HP.out _ HB5.out)
theorem rowIn_at {hd : Nat} {w : World} {rv : Value} {row : TN.Rw} (h : TN.RowIn (fun b => b ≠ hd) w rv row) : TN.RowAt w rv row := h.at
/- A node's test, called: what it tells of a row is held at its place. -/
theorem step_any {tb hvb ab hd i : Nat} {cs : List TN.Cl} {q : Nx} {hs : List Bool} {w : World} {rv tv : Value} {row : TN.Rw} (ht : Tst hd hs.length cs q i w tv) (h1 : w.cell? ⟨tb, 0, none⟩ = some tv) (h2 : w.cell? ⟨hvb, 0, none⟩ = some (slB hd hs.length)) (h3 : w.cell? ⟨ab, 0, none⟩ = some (.int .i64 (i : Int))) (hn : tb ≠ hd ∧ hvb ≠ hd ∧ ab ≠ hd) (hH : Hd w hd hs) (hi : i < hs.length) (hr : TN.RowAt w rv row) (hM : Mx w) (hz : q.np.kind = 15 → Rsz row) : Calls Try.prog 61 #[rv, dp tb, dp hvb, dp ab] w (StP hd hs i (tst cs q i hs row) w) := by
  cases ht with
  | never h => exact c1_never h1 h2 h3 hn hH hi (fun W hb => (never_any rv W).mono (fun e w' ⟨e1, e2⟩ => by subst e2; rw [h]; exact ⟨e1, Below.refl _ _⟩))
  | cmp cb fb nb hk g2 g3 g4 =>
    have e : tst cs q i hs row = (match valAt cs row q.np.s with | some v => cmpQ q v | none => false) := by unfold tst; rw [if_pos hk]; rfl
    rw [e]
    exact c1_of h1 h2 h3 hn hH hi (fun W hb => of1_any (block_cell (block_on g2 hb) 0) (block_cell (block_on g3 hb) 0) (block_on g4 hb) (hr.on hb))
  | has cb fb nb hk g2 g3 g4 =>
    have e : tst cs q i hs row = (match valAt cs row q.np.s with | some v => hasQ q v | none => false) := by unfold tst; rw [if_neg (by omega), if_pos hk]; rfl
    rw [e]
    exact c1_of h1 h2 h3 hn hH hi (fun W hb => of2_any (block_cell (block_on g2 hb) 0) (block_cell (block_on g3 hb) 0) (block_on g4 hb) (hr.on hb) (hM.on hb) (hz hk))
  | not hb lb a hk g1 g2 g3 g4 g5 =>
    have e : tst cs q i hs row = !hsAt hs a := by unfold tst; rw [if_neg (by omega), if_neg (by omega), g5]; simp [hk]
    rw [e]
    exact c1_t3 h1 h2 h3 hn hH hi (fun W hW => t3_any rv (block_cell (block_on g2 hW) 0) (block_cell (block_on g3 hW) 0) (g4.on hW) (hH.on hW) g1)
  | and hb lb a b hk g1 g2 g3 g4 g5 =>
    have e : tst cs q i hs row = (hsAt hs a && hsAt hs b) := by unfold tst; rw [if_neg (by omega), if_neg (by omega), g5]; simp [hk]
    rw [e]
    exact c1_t4 h1 h2 h3 hn hH hi (fun W hW => t4_any rv (block_cell (block_on g2 hW) 0) (block_cell (block_on g3 hW) 0) (g4.on hW) (hH.on hW) g1.1 g1.2)
  | or hb lb a b hk g1 g2 g3 g4 g5 =>
    have e : tst cs q i hs row = (hsAt hs a || hsAt hs b) := by unfold tst; rw [if_neg (by omega), if_neg (by omega), g5]; simp [hk]
    rw [e]
    exact c1_t5 h1 h2 h3 hn hH hi (fun W hW => t5_any rv (block_cell (block_on g2 hW) 0) (block_cell (block_on g3 hW) 0) (g4.on hW) (hH.on hW) g1.1 g1.2)
end Go.Proofs.Ytjekpclbedbaoaa.PD
namespace Go.Proofs.Ytjekpclbedbaoaa.PD
open Go.RowKit Go.Joins

/- A step, as it lies: the closure that holds a node's test. -/
def Stp (hd n hvb : Nat) (cs : List TN.Cl) (q : Nx) (i : Nat) (w : World) (sv : Value) : Prop :=
  ∃ tb ab tv, sv = .func (.func 61) #[] #[dp tb, dp hvb, dp ab] ∧ w.heap[tb]? = some (.cells #[tv] 76 (0, 0)) ∧ w.heap[ab]? = some (.cells #[.int .i64 (i : Int)] 3 (0, 0)) ∧ Tst hd n cs q i w tv
theorem Stp.kp {hd n hvb : Nat} {cs : List TN.Cl} {q : Nx} {i : Nat} {w w' : World} {sv : Value} {T : Nat → Prop} (h : Stp hd n hvb cs q i w sv) (hk : Kp T w w') (hT : TyS w T hd) : Stp hd n hvb cs q i w' sv := by
  obtain ⟨tb, ab, tv, e, h2, h3, h4⟩ := h
  exact ⟨tb, ab, tv, e, hT.blk hk h2 (by decide), hT.blk hk h3 (by decide), h4.kp hk hT.ok⟩
/- The places that a node stands on, in their order; with each those that it stands on. -/
structure Ats (qs : List Nx) (i : Nat) (ls : List Nat) : Prop where
  up : ls.Pairwise (· < ·)
  le : ∀ a ∈ ls, a ≤ i
  top : i ∈ ls
  down : ∀ a ∈ ls, ∀ q, qs[a]? = some q → ∀ e ∈ bel q a, e.toNat ∈ ls
theorem Ats.before {qs : List Nx} {i : Nat} {ls : List Nat} (h : Ats qs i ls) {k a b : Nat} (ha : ls[k]? = some a) (hb : b ∈ ls) (hlt : b < a) : ∃ j, j < k ∧ ls[j]? = some b := by
  obtain ⟨j, hj⟩ := List.getElem?_of_mem hb
  refine ⟨j, ?_, hj⟩
  apply Classical.byContradiction
  intro hc
  obtain ⟨hk, ek⟩ := List.getElem?_eq_some_iff.1 ha
  obtain ⟨hj', ej⟩ := List.getElem?_eq_some_iff.1 hj
  rcases Nat.lt_or_ge k j with h1 | h1
  · have := List.pairwise_iff_getElem.1 h.up k j hk hj' h1
    omega
  · have : k = j := by omega
    subst this
    rw [ha] at hj; cases hj; omega
/- A condition, as it lies. -/
structure Cnd (hd hvb sb ib sg sc : Nat) (svs : List Value) (cs : List TN.Cl) (qs : List Nx) (i : Nat) (ls : List Nat) (w : World) : Prop where
  gt : hd < hvb ∧ hd < sb ∧ ib ≠ hd ∧ hd < sg
  hv : w.cell? ⟨hvb, 0, none⟩ = some (slB hd (i + 1))
  sv : w.cell? ⟨sb, 0, none⟩ = some (.slice (some ⟨sg, 0, none⟩) svs.length sc)
  iv : w.cell? ⟨ib, 0, none⟩ = some (.int .i64 (i : Int))
  cell : ∀ (k : Nat) v, svs[k]? = some v → w.cell? ⟨sg, k, none⟩ = some v
  len : svs.length = ls.length ∧ ls.length ≤ i + 1
  ats : Ats qs i ls
  il : i < qs.length ∧ i < 1000
  stp : ∀ (k a : Nat) v q, ls[k]? = some a → svs[k]? = some v → qs[a]? = some q → Stp hd (i + 1) hvb cs q a w v
theorem Cnd.kp {hd hvb sb ib sg sc : Nat} {svs : List Value} {cs : List TN.Cl} {qs : List Nx} {i : Nat} {ls : List Nat} {w w' : World} {hs : List Bool} (h : Cnd hd hvb sb ib sg sc svs cs qs i ls w) (hk : Kp (fun k => k = hd) w w') (hH : Hd w hd hs) : Cnd hd hvb sb ib sg sc svs cs qs i ls w' := by
  have hg := h.gt
  exact ⟨hg, hk.cell h.hv (by omega), hk.cell h.sv (by omega), hk.cell h.iv (by omega), fun k v hv => hk.cell (h.cell k v hv) (by omega), h.len, h.ats, h.il, fun k a v q h1 h2 h3 => (h.stp k a v q h1 h2 h3).kp hk (TyS.hd hH)⟩
theorem hsAt_set {hs : List Bool} {a b : Nat} {r : Bool} (ha : a < hs.length) : hsAt (hs.set a r) (b : Int) = if b = a then r else hsAt hs (b : Int) := by
  unfold hsAt
  rw [Int.toNat_natCast, List.getD_eq_getElem?_getD, List.getD_eq_getElem?_getD, List.getElem?_set]
  by_cases h : a = b
  · subst h; simp [ha]
  · rw [if_neg h, if_neg (fun e => h e.symm)]
theorem rowIn_kp {hd : Nat} {w w' : World} {rv : Value} {row : TN.Rw} (h : TN.RowIn (fun b => b ≠ hd) w rv row) (hk : Kp (fun k => k = hd) w w') : TN.RowIn (fun b => b ≠ hd) w' rv row := by
  obtain ⟨p, cap, hv, hc, hm, hx⟩ := h
  exact ⟨p, cap, hv, hc, hm, fun hne => let ⟨b, o, hp, hQ, hj⟩ := hx hne; ⟨b, o, hp, hQ, fun j x hjx i u hu => hk.cell (hj j x hjx i u hu) hQ.1⟩⟩
theorem mx_kp {hd : Nat} {w w' : World} (h : Mx w) (hk : Kp (fun k => k = hd) w w') (h0 : 0 < hd) : Mx w' := by
  obtain ⟨m, hm⟩ := h
  exact ⟨m, hk.cell hm (by omega)⟩
def Held (cs : List TN.Cl) (qs : List Nx) (row : TN.Rw) (ls : List Nat) (k : Nat) (hs : List Bool) : Prop := ∀ j a, j < k → ls[j]? = some a → hsAt hs (a : Int) = hsAt (oks cs row qs) (a : Int)
theorem held_next {cs : List TN.Cl} {qs : List Nx} {row : TN.Rw} {ls : List Nat} {i k a : Nat} {hs : List Bool} {q : Nx} (hA : Ats qs i ls) (h : Held cs qs row ls k hs) (ha : ls[k]? = some a) (hq : qs[a]? = some q) (hl : a < hs.length) : Held cs qs row ls (k + 1) (hs.set a (tst cs q a hs row)) := by
  intro j b hj hb
  rw [hsAt_set hl]
  have key : tst cs q a hs row = hsAt (oks cs row qs) (a : Int) := by
    have := oks_get (cs := cs) (row := row) hq
    unfold hsAt
    rw [Int.toNat_natCast, List.getD_eq_getElem?_getD, this]
    show _ = tst cs q a (oks cs row qs) row
    refine tst_congr (fun e he => ?_)
    have h1 := bel_mem he
    obtain ⟨j', hj', hb'⟩ := hA.before ha (hA.down a (List.mem_of_getElem? ha) q hq e he) (by omega)
    have := h j' e.toNat hj' hb'
    rwa [Int.toNat_of_nonneg h1.1] at this
  by_cases e : b = a
  · subst e; rw [if_pos rfl]; exact key
  · rw [if_neg e]
    rcases Nat.lt_or_ge j k with h1 | h1
    · exact h j b h1 hb
    · have : j = k := by omega
      subst this
      rw [ha] at hb; cases hb; exact absurd rfl e
theorem held_top {cs : List TN.Cl} {qs : List Nx} {row : TN.Rw} {ls : List Nat} {i : Nat} {hs : List Bool} (hA : Ats qs i ls) (h : Held cs qs row ls ls.length hs) : hsAt hs (i : Int) = holdsX cs qs i row := by
  obtain ⟨j, hj⟩ := List.getElem?_of_mem hA.top
  rw [h j i (List.getElem?_eq_some_iff.1 hj).1 hj]
  unfold holdsX
  rw [decide_eq_true (by omega)]; rfl
set_option maxRecDepth 100000 in
set_option maxHeartbeats 4000000 in
/- The whole condition, called on a row. -/
theorem cond_run {hd hvb sb ib sg sc : Nat} {svs : List Value} {cs : List TN.Cl} {qs : List Nx} {i : Nat} {ls : List Nat} {w : World} {hs : List Bool} {rv : Value} {row : TN.Rw} (hC : Cnd hd hvb sb ib sg sc svs cs qs i ls w) (hH : Hd w hd hs) (hl : hs.length = i + 1) (hr : TN.RowIn (fun b => b ≠ hd) w rv row) (hM : Mx w) (hM0 : 0 < hd) (hz : ∀ q ∈ qs, q.np.kind = 15 → Rsz row) :
    Calls Try.prog 62 #[rv, dp sb, dp hvb, dp ib] w fun e w' => e = .returned (.bool (holdsX cs qs i row)) ∧ Kp (fun k => k = hd) w w' ∧ ∃ hs', Hd w' hd hs' ∧ hs'.length = i + 1 := by
  have HC := hid hC
  have HR := hid hr
  have HM := hid hM
  have HZ := hid hz
  have HA := hid hC.ats
  have HL := hid hC.len
  have HI := hid hC.il
  have HHd := hid hH
  have HhL := hid hl
  have y1 := hC.sv
  have hI := hC.il
  have hsl : svs.length ≤ 1000 := by have := hC.len; omega
  obtain ⟨n, hn⟩ : ∃ n, svs.length = n := ⟨_, rfl⟩
  have HN := hid hn
  rw [hn] at y1
  rw [hn] at hsl
  have nI : (n : Int) ≤ 1000 := by omega
  clear hC hr hM hz hH hl hn
  go_enter Try.func62, Try.ntmps62
  go_upto_region 2 with fail
  go_loopw [10] (fun x wr => ∃ k : Nat, k ≤ n ∧ x = .int .i64 k ∧ Hid (Kp (fun k => k = hd) w wr) ∧ Hid (∃ hs', Hd wr hd hs' ∧ hs'.length = i + 1 ∧ Held cs qs row ls k hs')) (fun x _ => n - (intOf x).toNat)
  case atStart => exact ⟨0, by omega, rfl, Kp.refl _ _, hs, HHd.out, HhL.out, fun j a h => absurd h (Nat.not_lt_zero _)⟩
  case round =>
    obtain ⟨k, hk, rfl, HK, hHs⟩ := hrel
    obtain ⟨hs', hH', hl', hh'⟩ := hHs.out
    have HCr := hid (HC.out.kp HK.out HHd.out)
    clear hHs
    by_cases hkl : k < n
    · have kI : (k : Int) < n := by omega
      have k0 : (0 : Int) ≤ k := by omega
      obtain ⟨v, hv⟩ : ∃ v, svs[k]? = some v := ⟨_, List.getElem?_eq_getElem (by rw [HN.out]; exact hkl)⟩
      obtain ⟨a, ha⟩ : ∃ a, ls[k]? = some a := ⟨_, List.getElem?_eq_getElem (by have := HL.out; rw [HN.out] at this; omega)⟩
      have hai := HA.out.le a (List.mem_of_getElem? ha)
      obtain ⟨q, hq⟩ : ∃ q, qs[a]? = some q := ⟨_, List.getElem?_eq_getElem (by have := HI.out; omega)⟩
      obtain ⟨tb, ab, tv, e, g2, g3, g4⟩ := HCr.out.stp k a v q ha hv hq
      have htb : tb ≠ hd := fun e => by rw [e, hH'] at g2; simp only [Option.some.injEq, Obj.cells.injEq] at g2; exact absurd g2.2.1 (by decide)
      have hab : ab ≠ hd := fun e => by rw [e, hH'] at g3; simp only [Option.some.injEq, Obj.cells.injEq] at g3; exact absurd g3.2.1 (by decide)
      have yk := HCr.out.cell k v hv
      rw [e] at yk
      have hS : Hid (Calls Try.prog 61 #[rv, dp tb, dp hvb, dp ab] wr (StP hd hs' a (tst cs q a hs' row) wr)) := step_any (by rw [hl']; exact g4) (block_cell g2 0) (by rw [hl']; exact HCr.out.hv) (block_cell g3 0) ⟨htb, by have := HCr.out.gt; omega, hab⟩ hH' (by omega) (rowIn_kp HR.out HK.out).at (mx_kp HM.out HK.out hM0) (HZ.out q (List.mem_of_getElem? hq))
      have HNx := hid (held_next HA.out hh' ha hq (by omega))
      have HLs : Hid ((hs'.set a (tst cs q a hs' row)).length = i + 1) := by show _ = _; rw [List.length_set, hl']
      clear hv ha hq g4 g2 g3 e hh' hH' hl' htb hab
      go_wp2_with (go_at_call 61; refine hS.out.mono ?_; rintro e w5 ⟨rfl, h5, k5⟩; have H5 := hid h5; have K5 := hid k5; clear h5 k5)
      go_roundw
      case rel => exact ⟨k + 1, by omega, by go_num, HK.out.trans K5.out, _, H5.out, HLs.out, HNx.out⟩
      case measure => simp [intOf]; omega
    · have hkn : k = n := by omega
      have kI : ¬ (k : Int) < n := by omega
      have y2 := HCr.out.hv
      have y3 := HCr.out.iv
      have y4 := hH'.cell (a := i) (by omega)
      have i0 : (0 : Int) ≤ i := by omega
      have i1 : (i : Int) < ((i + 1 : Nat) : Int) := by omega
      have HT := hid (held_top HA.out (by have := HL.out; rw [HN.out] at this; rw [← this.1, ← hkn]; exact hh'))
      have HHs := hid (⟨hs', hH', hl'⟩ : ∃ hs', Hd wr hd hs' ∧ hs'.length = i + 1)
      clear hh' hH' hl' hkn hkl
      go_wp2_with fail
      go_ret
      exact ⟨by rw [← HT.out]; rfl, HK.out, HHs.out⟩
end Go.Proofs.Ytjekpclbedbaoaa.PD
namespace Go.Proofs.Ytjekpclbedbaoaa.PD
open Go.RowKit Go.Joins

def offB (e : Int) (i : Nat) : Bool := !(decide (0 ≤ e) && decide (e < (i : Int)))
set_option maxRecDepth 100000 in
theorem off_any {b i : Nat} (e : Int) {w : World} (h : w.cell? ⟨b, 0, none⟩ = some (.int .i64 (i : Int))) : Calls Try.prog 96 #[.int .i64 e, dp b] w fun x w' => x = .returned (.bool (offB e i)) ∧ w' = w := by
  by_cases h0 : e < 0
  · have HE : Hid (offB e i = true) := by show _ = _; unfold offB; rw [decide_eq_false (by omega)]; rfl
    go_enter Try.func96, Try.ntmps96
    go_wp2_with fail
    go_ret
    exact ⟨by rw [HE.out]; rfl, rfl⟩
  · by_cases h1 : (i : Int) ≤ e
    · have HE : Hid (offB e i = true) := by show _ = _; unfold offB; rw [decide_eq_false (show ¬ e < (i : Int) by omega)]; simp
      go_enter Try.func96, Try.ntmps96
      go_wp2_with fail
      go_ret
      exact ⟨by rw [HE.out]; rfl, rfl⟩
    · have HE : Hid (offB e i = false) := by show _ = _; unfold offB; rw [decide_eq_true (by omega), decide_eq_true (by omega)]; rfl
      go_enter Try.func96, Try.ntmps96
      go_wp2_with fail
      go_ret
      exact ⟨by rw [HE.out]; rfl, rfl⟩
theorem ahead_off {l : List Int} {i : Nat} : ahead l i = true ↔ ∀ (j : Nat) e, l[j]? = some e → offB e i = false := by
  unfold ahead offB
  rw [List.all_eq_true]
  constructor
  · intro h j e he
    rw [h e (List.mem_of_getElem? he)]; rfl
  · intro h e he
    obtain ⟨j, hj⟩ := List.getElem?_of_mem he
    have := h j e hj
    simpa using this
def IdxP (b : Bool) (x : Ending) : Prop := ∃ r : Int, x = .returned (.int .i64 r) ∧ decide (0 ≤ r) = b
set_option maxRecDepth 100000 in
set_option maxHeartbeats 1000000 in
theorem idx_any {Q : Nat → Prop} {b i : Nat} {lv : Value} {L : List Int} {w : World} (hl : SlAt Q int1 1 w lv L) (hb : w.cell? ⟨b, 0, none⟩ = some (.int .i64 (i : Int))) : Calls Try.prog 113 #[lv, .func (.func 96) #[] #[dp b]] w fun x w' => IdxP (!ahead L i) x ∧ w' = w := by
  obtain ⟨p, c, rfl, hlc, hm⟩ := hl.form
  unfold maxLen at hm
  have HL := hid hl
  have HB := hid hb
  obtain ⟨n, hn⟩ : ∃ n, L.length = n := ⟨_, rfl⟩
  have HN := hid hn
  rw [hn] at HL hlc
  have nI : (n : Int) ≤ 9223372036854775807 := by omega
  clear hl hb hn hlc
  go_enter Try.func113, Try.ntmps113
  go_upto_region 2 with fail
  rw [HN.out]
  go_loopw [8] (fun x wr => ∃ k : Nat, k ≤ n ∧ x = .int .i64 k ∧ wr = w ∧ Hid (∀ (j : Nat) e, j < k → L[j]? = some e → offB e i = false)) (fun x _ => n - (intOf x).toNat)
  case atStart => exact ⟨0, by omega, rfl, rfl, fun j e h => absurd h (Nat.not_lt_zero _)⟩
  case round =>
    obtain ⟨k, hk, rfl, rfl, HA⟩ := hrel
    by_cases hkl : k < n
    · have kI : (k : Int) < n := by omega
      have k0 : (0 : Int) ≤ k := by omega
      obtain ⟨e, he⟩ : ∃ e, L[k]? = some e := ⟨_, List.getElem?_eq_getElem (by rw [HN.out]; exact hkl)⟩
      obtain ⟨g, o, rfl, -, hc⟩ := HL.out.at he
      have c0 : wr.cell? ⟨g, o + k, none⟩ = some (.int .i64 e) := by have := hc 0 _ rfl; rwa [Nat.mul_one, Nat.add_zero] at this
      have HO := hid (off_any e HB.out)
      have HX := hid he
      cases ho : offB e i with
      | true =>
        rw [ho] at HO
        clear he hc
        go_wp2_with (go_at_call 96; refine HO.out.mono ?_; rintro x w5 ⟨rfl, e5⟩; replace e5 := e5.symm; subst e5)
        go_ret
        refine ⟨⟨_, rfl, ?_⟩, rfl⟩
        have : ¬ ahead L i = true := fun h => by have := ahead_off.1 h k e HX.out; rw [ho] at this; cases this
        rw [Bool.eq_false_iff.2 this]
        exact decide_eq_true (by omega)
      | false =>
        rw [ho] at HO
        clear he hc
        go_wp2_with (go_at_call 96; refine HO.out.mono ?_; rintro x w5 ⟨rfl, e5⟩; replace e5 := e5.symm; subst e5)
        go_roundw
        case rel =>
          refine ⟨k + 1, by omega, by go_num, by first | rfl | trivial, fun j e' hj hje => ?_⟩
          by_cases ej : j = k
          · subst ej
            rw [HX.out] at hje; cases hje; exact ho
          · exact HA.out j e' (by omega) hje
        case measure => simp [intOf]; omega
    · have kI : ¬ (k : Int) < n := by omega
      have HT : Hid (ahead L i = true) := ahead_off.2 (fun j e he => HA.out j e (by have := (List.getElem?_eq_some_iff.1 he).1; have := HN.out; omega) he)
      clear hkl
      go_wp2_with fail
      go_ret
      exact ⟨⟨_, rfl, by rw [HT.out]; rfl⟩, rfl⟩
set_option maxRecDepth 100000 in
theorem contains_any {Q : Nat → Prop} {b i : Nat} {lv : Value} {L : List Int} {w : World} (hl : SlAt Q int1 1 w lv L) (hb : w.cell? ⟨b, 0, none⟩ = some (.int .i64 (i : Int))) : Calls Try.prog 98 #[lv, .func (.func 96) #[] #[dp b]] w fun x w' => x = .returned (.bool (!ahead L i)) ∧ w' = w := by
  have HI := hid (idx_any hl hb)
  clear hl hb
  go_enter Try.func98, Try.ntmps98
  go_wp2_with (go_at_call 113; refine HI.out.mono ?_; rintro x w5 ⟨⟨r, rfl, hr⟩, e5⟩; replace e5 := e5.symm; subst e5)
  go_ret
  exact ⟨by rw [← hr]; rfl, rfl⟩
set_option maxRecDepth 100000 in
theorem how_any (k : Int) (w : World) : Calls Try.prog 97 #[.int .i64 k] w fun x w' => x = .returned (.int .i64 (how1 k)) ∧ w' = w := by
  by_cases hk : k = 13 ∨ k = 11 ∨ k = 12
  · rcases hk with rfl | rfl | rfl
    all_goals
      (go_enter Try.func97, Try.ntmps97
       go_wp2_with fail
       go_ret
       exact ⟨rfl, rfl⟩)
  · have HE : Hid (how1 k = 0) := by show _ = _; unfold how1; rw [if_neg (by omega), if_neg (by omega)]
    have b1 : (k == 13) = false := by simp; omega
    have b2 : (k == 11) = false := by simp; omega
    have b3 : (k == 12) = false := by simp; omega
    clear hk
    go_enter Try.func97, Try.ntmps97
    go_wp2_with fail
    go_ret
    exact ⟨by rw [HE.out]; rfl, rfl⟩
end Go.Proofs.Ytjekpclbedbaoaa.PD
namespace Go.Proofs.Ytjekpclbedbaoaa.PD
open Go.RowKit Go.Joins

def BelP (q : Nx) (i : Nat) (x : Ending) : Prop := ∃ rv, x = .returned rv ∧ ((rv = q.lv ∧ bel q i = q.np.l) ∨ (rv = .slice none 0 0 ∧ bel q i = []))
set_option maxRecDepth 100000 in
set_option maxHeartbeats 2000000 in
theorem below_any {Q : Nat → Prop} {i : Nat} {q : Nx} {w : World} (hl : SlAt Q int1 1 w q.lv q.np.l) : Calls Try.prog 73 #[.agg q.cells.toArray, .int .i64 (i : Int)] w fun x w' => BelP q i x ∧ Below w.heap.size w w' := by
  obtain ⟨W, hW⟩ : ∃ W, W = (w.alloc (.cells q.cells.toArray 44)).alloc (.cells #[.int .i64 (i : Int)] 3) := ⟨_, rfl⟩
  have hB1 : Below w.heap.size w (w.alloc (.cells q.cells.toArray 44)) := (Below.refl _ _).alloc (Nat.le_refl _) _
  have hB2 : Below (w.alloc (.cells q.cells.toArray 44)).heap.size (w.alloc (.cells q.cells.toArray 44)) W := by rw [hW]; exact (Below.refl _ _).alloc (Nat.le_refl _) _
  have hB : Below w.heap.size w W := hB1.trans (hB2.mono (by simp))
  have hN : W.heap[w.heap.size]? = some (.cells q.cells.toArray 44 (0, 0)) := block_on (alloc_block w _) hB2
  have hI : W.heap[w.heap.size + 1]? = some (.cells #[.int .i64 (i : Int)] 3 (0, 0)) := by
    have := alloc_block (w.alloc (.cells q.cells.toArray 44)) (.cells #[.int .i64 (i : Int)] 3)
    rw [hW]; simpa using this
  have c0 : W.cell? ⟨w.heap.size, 0, none⟩ = some (.int .i64 q.np.kind) := block_cell hN 0
  have c16 : W.cell? ⟨w.heap.size, 16, none⟩ = some q.lv := block_cell hN 16
  have ci : W.cell? ⟨w.heap.size + 1, 0, none⟩ = some (.int .i64 (i : Int)) := block_cell hI 0
  have HL := hid (hl.on hB)
  have HC : Hid (∀ W', Below W.heap.size W W' → Calls Try.prog 98 #[q.lv, .func (.func 96) #[] #[dp (w.heap.size + 1)]] W' fun x w' => x = .returned (.bool (!ahead q.np.l i)) ∧ w' = W') := fun W' hb => contains_any ((hl.on hB).on hb) ((hb.cell (p := ⟨w.heap.size + 1, 0, none⟩) (block_lt_of_cell ci)).trans ci)
  have HBx := hid hB
  obtain ⟨p, c, e, -, -⟩ := hl.form
  have HE := hid e
  rw [e] at c16 HC
  have HW := hid hW
  obtain ⟨n, hn⟩ : ∃ n, q.np.l.length = n := ⟨_, rfl⟩
  have HN := hid hn
  rw [hn] at c16 HC
  clear hl hB1 hB2 hB hN hI hW e hn
  by_cases h1 : n = how1 q.np.kind
  · have b1 : ((n : Int) != (how1 q.np.kind : Int)) = false := by rw [h1]; simp
    cases ha : ahead q.np.l i with
    | true =>
      rw [ha] at HC
      have HP : Hid (BelP q i (.returned q.lv)) := ⟨_, rfl, .inl ⟨rfl, by unfold bel; rw [if_pos ⟨HN.out.trans h1, ha⟩]⟩⟩
      rw [HE.out, HN.out] at HP
      clear h1 ha
      go_enter Try.func73, Try.ntmps73
      go_upto_region 2 with fail
      rw [← HW.out]
      go_quiet (first | (go_at_call 97; exact Calls.quiet_of_same (how_any _ _)) | (go_at_call 98; exact Calls.quiet_of_same (HC.out _ (below_drewN (Below.refl _ _) _))))
      go_wp2_with fail
      go_ret
      exact ⟨HP.out, below_drewN HBx.out _⟩
    | false =>
      rw [ha] at HC
      have HP : Hid (BelP q i (.returned (.slice none 0 0))) := ⟨_, rfl, .inr ⟨rfl, by unfold bel; rw [if_neg]; rintro ⟨g1, g2⟩; rw [ha] at g2; cases g2⟩⟩
      clear h1 ha
      go_enter Try.func73, Try.ntmps73
      go_upto_region 2 with fail
      rw [← HW.out]
      go_quiet (first | (go_at_call 97; exact Calls.quiet_of_same (how_any _ _)) | (go_at_call 98; exact Calls.quiet_of_same (HC.out _ (below_drewN (Below.refl _ _) _))))
      go_wp2_with fail
      go_ret
      exact ⟨HP.out, below_drewN HBx.out _⟩
  · have b1 : ((n : Int) != (how1 q.np.kind : Int)) = true := by simp; omega
    have HP : Hid (BelP q i (.returned (.slice none 0 0))) := ⟨_, rfl, .inr ⟨rfl, by unfold bel; rw [if_neg]; rintro ⟨g1, g2⟩; exact h1 (HN.out.symm.trans g1)⟩⟩
    clear h1
    go_enter Try.func73, Try.ntmps73
    go_upto_region 2 with fail
    rw [← HW.out]
    go_quiet (first | (go_at_call 97; exact Calls.quiet_of_same (how_any _ _)))
    go_wp2_with fail
    go_ret
    exact ⟨HP.out, below_drewN HBx.out _⟩
end Go.Proofs.Ytjekpclbedbaoaa.PD
