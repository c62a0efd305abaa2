/-
  What New and see of package hints return.
-/
import Derived.Test.YtmkilckoeaekkaaQHMem
namespace Go.Proofs.Ytmkilckoeaekkaa
open Go.RowKit Go.Sort Go.Maps

theorem new_any {B : Nat} {w : World} (hB : B ≤ w.heap.size) : Calls Try.prog 7 #[] w fun e w' => ∃ b, e = .returned (dp b) ∧ Hk B w' b none (fun _ => 0) (fun _ => 0) 0 Ix.none ∧ b = w.heap.size ∧ Below w.heap.size w w' := by
  have HM := hid (Hk.made B w hB)
  go_enter Try.func7, Try.ntmps7
  go_wp2
  go_ret
  exact ⟨_, rfl, HM.out, rfl, (Below.refl _ _).alloc (Nat.le_refl _) _⟩
/- A name that was not seen. -/
theorem Hk.seeNew {B : Nat} {w w2 : World} {b m : Nat} {f c : ByteArray → Nat} {N : Nat} {x : Ix} (h : Hk B w b (some m) f c N x) (hB : B ≤ w.heap.size) {s : ByteArray} (hs : x.seen s = false) {D : D1} (hA : AgN D x f) (hm : IsMap D)
    (hD : OwnN w2 m (N + 1) (D.put (kl s) (dM (w.heap.size : Int)))) (hg : (w.alloc (.map #[] 0)).grownBy w2 (some m)) :
    Hk B w2 b (some m) (fun n => if n = s then w.heap.size else f n) (fun n => if n = s then 0 else c n) (N + 1) (x.see s) := by
  have hka : Kp (fun _ => False) w (w.alloc (.map #[] 0)) := Kp.alloc _ _ _
  have hkg : Kp (fun k => k = m) (w.alloc (.map #[] 0)) w2 := Kp.grown hg (fun k e => by cases e; rfl)
  have hne := h.ne
  have hml : m < w.heap.size := by obtain ⟨D', h1, _⟩ := h.map m rfl; exact h1.lt
  have hse : ∀ n, (x.see s).seen n = true → x.seen n = true ∨ n = s := fun n hn => by simpa [Ix.see] using hn
  have hold : ∀ n, x.seen n = true → n ≠ s := fun n hn e => by rw [e, hs] at hn; cases hn
  refine ⟨h.bB, hkg.blk (hka.blk h.blk id) (fun e => hne.1 (by rw [e])), h.mB, fun e => (by cases e), fun m' e => ?_, fun n hn => ?_, fun n hn g => ?_, fun n n' hn hn' e => ?_, fun n m' hn e => ?_⟩
  · cases e
    refine ⟨_, hD, fun n => ⟨?_, ?_⟩⟩
    · by_cases e : n = s
      · subst e; rw [has_put_same hm (isKey _)]; simp [Ix.see]
      · rw [has_put_other (fun h => e (kl_inj h)), (hA n).1]; simp [Ix.see, e]
    · unfold atN
      by_cases e : n = s
      · subst e; rw [atKey_put_same hm (isKey _)]; simp [Ix.see]
      · rw [atKey_put_other (fun h => e (kl_inj h)), (hA n).2]
        unfold atN
        simp [Ix.see, e]
  · show B ≤ (if n = s then w.heap.size else f n) ∧ Fm w2 (if n = s then w.heap.size else f n) (if n = s then 0 else c n) (x.bits n)
    by_cases e : n = s
    · subst e
      rw [if_pos rfl, if_pos rfl]
      have e0 : x.bits n = fun _ => 0 := funext (h.out n hs)
      rw [e0]
      exact ⟨hB, (Fm.made w).kp hkg (by omega)⟩
    · have hn' := (hse n hn).resolve_right e
      rw [if_neg e, if_neg e]
      exact ⟨(h.inn n hn').1, ((h.inn n hn').2.kp hka id).kp hkg (h.off n m hn' rfl)⟩
  · have h0 : x.seen n = false := by
      cases hx : x.seen n with
      | false => rfl
      | true => simp [Ix.see, hx] at hn
    exact h.out n h0 g
  · by_cases e1 : n = s
    · by_cases e2 : n' = s
      · rw [e1, e2]
      · have hn2 := (hse n' hn').resolve_right e2
        have e3 : w.heap.size = f n' := by simpa [e1, e2] using e
        have := (h.inn n' hn2).2.lt
        omega
    · have hn1 := (hse n hn).resolve_right e1
      by_cases e2 : n' = s
      · have e3 : f n = w.heap.size := by simpa [e1, e2] using e
        have := (h.inn n hn1).2.lt
        omega
      · exact h.inj n n' hn1 ((hse n' hn').resolve_right e2) (by simpa [e1, e2] using e)
  · cases e
    show (if n = s then w.heap.size else f n) ≠ m
    by_cases e : n = s
    · rw [if_pos e]; omega
    · rw [if_neg e]; exact h.off n m ((hse n hn).resolve_right e) rfl
theorem Hk.first {B : Nat} {w : World} {b : Nat} {f c : ByteArray → Nat} {N : Nat} {x : Ix} (h : Hk B w b none f c N x) (hB : B ≤ w.heap.size) : Hk B ((w.alloc (.map #[] 0)).setCell ⟨b, 0, none⟩ (mp w.heap.size)) b (some w.heap.size) f c 0 x := by
  have hbl := lt_of_block h.blk
  have h0 := h.nil rfl
  refine ⟨h.bB, ?_, fun m e => (by cases e; exact hB), fun e => (by cases e), fun m e => ?_, fun n hn => (by rw [h0 n] at hn; cases hn), h.out, fun n _ hn => (by rw [h0 n] at hn; cases hn), fun n _ hn => (by rw [h0 n] at hn; cases hn)⟩
  · exact block_set ((Kp.alloc (fun _ => False) w _).blk h.blk id) 0 _
  · cases e
    refine ⟨.map [], (World.ownsMap_made _ _ _ _).setCell (by show w.heap.size ≠ b; omega) _, fun n => ⟨?_, ?_⟩⟩
    · rw [h0 n]; rfl
    · unfold atN; rw [h0 n]; rfl
structure SeeP (B : Nat) (w : World) (b : Nat) (mo : Option Nat) (f c : ByteArray → Nat) (N : Nat) (x : Ix) (s : ByteArray) (e : Ending) (w' : World) (m' : Nat) (f' c' : ByteArray → Nat) (N' : Nat) : Prop where
  ret : e = .returned (mp (f' s))
  hk : Hk B w' b (some m') f' c' N' (x.see s)
  most : N' ≤ N + 1
  cs : ∀ n, x.seen n = true → c' n = c n ∧ f' n = f n
  new : x.seen s = false → c' s = 0 ∧ w.heap.size ≤ f' s
  top : mo = some m' ∨ (mo = none ∧ w.heap.size ≤ m')
  kp : Kp (fun k => k = b ∨ mo = some k) w w'
theorem SeeP.gr {B : Nat} {w : World} {b : Nat} {mo : Option Nat} {f c : ByteArray → Nat} {N : Nat} {x : Ix} {s : ByteArray} {e : Ending} {w' : World} {m' : Nat} {f' c' : ByteArray → Nat} {N' : Nat} (h : SeeP B w b mo f c N x s e w' m' f' c' N') : ∀ k, Th b (some m') f' (x.see s) k → Th b mo f x k ∨ w.heap.size ≤ k := by
  rintro k (rfl | hk | ⟨n, hn, rfl⟩)
  · exact .inl (.inl rfl)
  · cases hk
    rcases h.top with e | ⟨-, e⟩
    · exact .inl (.inr (.inl e))
    · exact .inr e
  · cases hx : x.seen n with
    | true => exact .inl (.inr (.inr ⟨n, hx, (h.cs n hx).2⟩))
    | false =>
      have : n = s := by simpa [Ix.see, hx] using hn
      subst this
      exact .inr (h.new hx).2
theorem eqlM66 (w : World) (m : Option Nat) : (binOp .eql 66 (.map m) (.map none)).run Try.prog w = .ok (.bool m.isNone) w := run_eql_map_nil w 66 9 70 m Try.underlying66
theorem eqlM70 (w : World) (m : Option Nat) : (binOp .eql 70 (.map m) (.map none)).run Try.prog w = .ok (.bool m.isNone) w := run_eql_map_nil w 70 9 49 m Try.underlying70
theorem seen_see (x : Ix) {s : ByteArray} (hs : x.seen s = true) : x.see s = x := by
  unfold Ix.see
  cases x with
  | mk se bi =>
    congr 1
    funext m
    by_cases e : m = s
    · subst e; simp at hs; simp [hs]
    · simp [e]
set_option maxHeartbeats 1000000 in
theorem see_old {B : Nat} {w : World} {b m : Nat} {f c : ByteArray → Nat} {N : Nat} {x : Ix} {s : ByteArray} (h : Hk B w b (some m) f c N x) (hs : s.size ≤ maxLen) (hx : x.seen s = true) :
    Calls Try.prog 23 #[dp b, .string s] w fun e w' => ∃ m' f' c' N', SeeP B w b (some m) f c N x s e w' m' f' c' N' := by
  have HK := hid h
  have q1 := eqlM66 w
  have q2 := eqlM70 w
  have k0 := h.cell
  have lk := h.look hs
  rw [hx, if_pos rfl] at lk
  have hmk : mkM (some m) = mp m := rfl
  rw [hmk] at k0
  have hbl := lt_of_block h.blk
  have HX := hid hx
  have HE := hid (seen_see x hx)
  clear h hx hmk
  generalize hfs : f s = fs at *
  have HF := hid hfs
  clear hfs
  go_enter Try.func23, Try.ntmps23
  go_wp2
  go_ret
  exact ⟨m, f, c, N, ⟨by rw [HF.out]; rfl, by rw [HE.out]; exact HK.out, by omega, fun _ _ => ⟨rfl, rfl⟩, fun e => (by rw [HX.out] at e; cases e), .inl rfl, Kp.refl _ _⟩⟩
set_option maxHeartbeats 1000000 in
theorem see_new {B : Nat} {w : World} {b m : Nat} {f c : ByteArray → Nat} {N : Nat} {x : Ix} {s : ByteArray} (h : Hk B w b (some m) f c N x) (hs : s.size ≤ maxLen) (hN : N < maxLen) (hB : B ≤ w.heap.size) (hx : x.seen s = false) :
    Calls Try.prog 23 #[dp b, .string s] w fun e w' => ∃ m' f' c' N', SeeP B w b (some m) f c N x s e w' m' f' c' N' := by
  have HK := hid h
  have q1 := eqlM66
  have q2 := eqlM70
  have hmm := @run_makeMap Try.prog
  have k0 : ∀ o, w.cell? ⟨b, o, none⟩ = #[mp m][o]? := h.cell
  have lk := h.look hs
  rw [hx, if_neg (by simp)] at lk
  obtain ⟨D, hD, hA⟩ := h.map m rfl
  have hm := hD.isMap
  obtain ⟨w2, hr2, hd2, hg2⟩ := (hD.alloc (.map #[] 0)).update (t := 66) (e := 70) law9 Try.underlying66 hN (key9 hs) (mElem_mk w.heap.size)
  have h2 := h.seeNew hB hx hA hm hd2 hg2
  have k2 : ∀ o, w2.cell? ⟨b, o, none⟩ = #[mp m][o]? := h2.cell
  have lk2 := h2.look hs
  rw [show (x.see s).seen s = true by simp [Ix.see], if_pos rfl, if_pos rfl] at lk2
  have HS := hid h2
  have HG := hid hg2
  have HX := hid hx
  have hbl := lt_of_block h.blk
  have hbl2 := lt_of_block h2.blk
  clear h hx hD hA hd2 hg2 h2 hm
  go_enter Try.func23, Try.ntmps23
  go_wp2
  go_ret
  refine ⟨m, _, _, _, ⟨by simp, HS.out, Nat.le_refl _, fun n hn => ?_, fun _ => ?_, .inl rfl, ?_⟩⟩
  · have : n ≠ s := fun e => by rw [e, HX.out] at hn; cases hn
    simp [this]
  · simp
  · exact (Kp.alloc _ _ _).trans (Kp.grown HG.out (fun k e => by cases e; exact .inr rfl))
set_option maxHeartbeats 1000000 in
theorem see_first {B : Nat} {w : World} {b : Nat} {f c : ByteArray → Nat} {N : Nat} {x : Ix} {s : ByteArray} (h : Hk B w b none f c N x) (hs : s.size ≤ maxLen) (hB : B ≤ w.heap.size) :
    Calls Try.prog 23 #[dp b, .string s] w fun e w' => ∃ m' f' c' N', SeeP B w b none f c N x s e w' m' f' c' N' := by
  have HK := hid h
  have q1 := eqlM66
  have q2 := eqlM70
  have hmm := @run_makeMap Try.prog
  have k0 : ∀ o, w.cell? ⟨b, o, none⟩ = #[.map none][o]? := h.cell
  have hbl := lt_of_block h.blk
  have fz : (w.alloc (.map #[] 0)).frozen? ⟨b, 0, none⟩ = false := block_frozen ((Kp.alloc (fun _ => False) w _).blk h.blk id) 0
  have h1 := h.first hB
  have hx := h.nil rfl s
  obtain ⟨w1, hw1⟩ : ∃ w1, (w.alloc (.map #[] 0)).setCell ⟨b, 0, none⟩ (mp w.heap.size) = w1 := ⟨_, rfl⟩
  rw [hw1] at h1
  have hw1' : (w.setCell ⟨b, 0, none⟩ (mp w.heap.size)).alloc (.map #[] 0) = w1 := by rw [← hw1]; exact (World.setCell_alloc_past _ _ _ _ hbl).symm
  have hsz : w1.heap.size = w.heap.size + 1 := by rw [← hw1]; simp
  have hk1 : Kp (fun k => k = b ∨ (none : Option Nat) = some k) w w1 := by rw [← hw1]; exact (Kp.alloc _ _ _).trans (Kp.set (.inl rfl) _)
  have HW := hid hw1'
  have k1 : ∀ o, w1.cell? ⟨b, o, none⟩ = #[mp w.heap.size][o]? := h1.cell
  have lk := h1.look hs
  rw [hx, if_neg (by simp)] at lk
  obtain ⟨D, hD, hA⟩ := h1.map _ rfl
  have hm := hD.isMap
  obtain ⟨w2, hr2, hd2, hg2⟩ := (hD.alloc (.map #[] 0)).update (t := 66) (e := 70) law9 Try.underlying66 (by unfold maxLen; omega) (key9 hs) (mElem_mk w1.heap.size)
  have h2 := h1.seeNew (by omega) hx hA hm hd2 hg2
  have k2 : ∀ o, w2.cell? ⟨b, o, none⟩ = #[mp w.heap.size][o]? := h2.cell
  have lk2 := h2.look hs
  rw [show (x.see s).seen s = true by simp [Ix.see], if_pos rfl, if_pos rfl] at lk2
  have HS := hid h2
  have HG := hid hg2
  have HX := hid hx
  have H0 := hid (h.nil rfl)
  have HK1 := hid hk1
  have hbl1 := lt_of_block h1.blk
  have hbl2 := lt_of_block h2.blk
  clear h hx hD hA hd2 hg2 h2 hm h1 hk1 hw1 hw1'
  go_enter Try.func23, Try.ntmps23
  have HZ := hid hsz
  clear hsz
  go_upto_region 3 with fail
  rw [HW.out]
  go_wp2
  go_ret
  have hzz := HZ.out
  refine ⟨w.heap.size, _, _, _, ⟨by simp, HS.out, by omega, fun n hn => (by rw [H0.out] at hn; cases hn), fun _ => ?_, .inr ⟨rfl, Nat.le_refl _⟩, ?_⟩⟩
  · simp; omega
  · exact HK1.out.trans' ((Kp.alloc (fun k => k = w.heap.size) _ _).trans (Kp.grown HG.out (fun k e => by cases e; rfl))) (fun i hi e => by omega)
theorem see_any {B : Nat} {w : World} {b : Nat} {mo : Option Nat} {f c : ByteArray → Nat} {N : Nat} {x : Ix} {s : ByteArray} (h : Hk B w b mo f c N x) (hs : s.size ≤ maxLen) (hN : N < maxLen) (hB : B ≤ w.heap.size) :
    Calls Try.prog 23 #[dp b, .string s] w fun e w' => ∃ m' f' c' N', SeeP B w b mo f c N x s e w' m' f' c' N' := by
  cases mo with
  | none => exact see_first h hs hB
  | some m =>
    cases hx : x.seen s with
    | true => exact see_old h hs hx
    | false => exact see_new h hs hN hB hx
end Go.Proofs.Ytmkilckoeaekkaa
