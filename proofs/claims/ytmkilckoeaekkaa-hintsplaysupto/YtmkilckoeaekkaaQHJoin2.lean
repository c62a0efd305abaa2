/-
  What Join of package hints does where the other one has names.
-/
import Derived.Test.YtmkilckoeaekkaaQHJoin
namespace Go.Proofs.Ytmkilckoeaekkaa
open Go.RowKit Go.Sort Go.Maps Go.Shelf

/- While names come. -/
structure Jo (B M Mo : Nat) (w : World) (T : Nat → Prop) (b r : Nat) (x o : Ix) (S cnt : Nat) (lf : Lit → Bool) (wr : World) (mo : Option Nat) (f c : ByteArray → Nat) (N : Nat) : Prop where
  hk : Hk B wr b mo f c N (joinL x o lf)
  most : N ≤ M + (S - cnt)
  caps : ∀ n, (joinL x o lf).seen n = true → c n ≤ if lf (kl n) = true then M else M + Mo
  inT : ∀ k, Th b mo f (joinL x o lf) k → T k ∨ r < k
  kp : Kp T w wr
theorem Jo.kp1 {B M Mo : Nat} {w : World} {T : Nat → Prop} {b r : Nat} {x o : Ix} {S cnt : Nat} {lf : Lit → Bool} {wr w1 w2 : World} {mo : Option Nat} {f c : ByteArray → Nat} {N : Nat} {n : ByteArray} {e : Ending} {m' : Nat} {f' c' : ByteArray → Nat} {N' : Nat}
    (h : Jo B M Mo w T b r x o S cnt lf wr mo f c N) (hr : r = w.heap.size) (hg : wr.grownBy w1 (some r)) (hp : SeeP B w1 b mo f c N (joinL x o lf) n e w2 m' f' c' N') : Kp T w w1 ∧ Kp T w w2 := by
  have k1 : Kp T w w1 := h.kp.trans' (Kp.grown (T := fun k => k = r) hg (fun k e => by cases e; rfl)) (fun i hi e => by omega)
  refine ⟨k1, k1.trans' hp.kp (fun i hi e => ?_)⟩
  rcases h.inT i (e.elim .inl (fun e => .inr (.inl e))) with h1 | h1
  · exact h1
  · omega
theorem Jo.step {B M Mo : Nat} {w : World} {T : Nat → Prop} {b r : Nat} {x o : Ix} {S cnt cnt1 : Nat} {lf : Lit → Bool} {wr w1 w2 wi : World} {mo : Option Nat} {f c : ByteArray → Nat} {N : Nat} {n : ByteArray} {e : Ending} {m' : Nat} {f' c' : ByteArray → Nat} {N' C : Nat} {li : Lit → Bool}
    (h : Jo B M Mo w T b r x o S cnt lf wr mo f c N) (hr : r = w.heap.size) (hg : wr.grownBy w1 (some r)) (hp : SeeP B w1 b mo f c N (joinL x o lf) n e w2 m' f' c' N') (hfm : Fm wi (f' n) C (joinF (x.bits n) (o.bits n) li)) (hC : C ≤ M + Mo) (hkp : Kp (fun k => k = f' n) w2 wi)
    (hli : ∀ l, li l = false) (hos : o.seen n = true) (hcnt : cnt1 < cnt) (hS : cnt ≤ S) (hrw : r < wr.heap.size) :
    Jo B M Mo w T b r x o S cnt1 (fun z => lf z && !z.sameKey (kl n)) wi (some m') f' (fun m => if m = n then C else c' m) N' := by
  have hj := joinL_step (x := x) (lf := lf) hos hli
  have hk := hp.hk.inner (n := n) (by simp [Ix.see]) hkp hfm
  rw [hj] at hk
  have hsz := hg.size
  have hin : ∀ k, Th b (some m') f' ((joinL x o lf).see n) k → T k ∨ r < k := fun k ht => by
    rcases hp.gr k ht with h1 | h1
    · exact h.inT k h1
    · exact .inr (by omega)
  have hse : ∀ m, (joinL x o (fun z => lf z && !z.sameKey (kl n))).seen m = ((joinL x o lf).see n).seen m := fun m => by rw [← hj]; rfl
  refine ⟨hk, ?_, fun m hm => ?_, fun k ht => ?_, ?_⟩
  · have := hp.most; have := h.most; omega
  · show (if m = n then C else c' m) ≤ if (lf (kl m) && !(kl m).sameKey (kl n)) = true then M else M + Mo
    rw [same_kl]
    by_cases e1 : m = n
    · subst e1; simp; exact hC
    · have hm' : (joinL x o lf).seen m = true := by
        rw [hse] at hm
        simpa [Ix.see, e1] using hm
      rw [if_neg e1, (hp.cs m hm').1]
      have := h.caps m hm'
      simpa [e1] using this
  · refine hin k ?_
    rcases ht with h1 | h1 | ⟨m, hm, h1⟩
    · exact .inl h1
    · exact .inr (.inl h1)
    · exact .inr (.inr ⟨m, by rw [← hse]; exact hm, h1⟩)
  · refine (h.kp1 hr hg hp).2.trans' hkp (fun i hi e1 => ?_)
    rcases hin i (.inr (.inr ⟨n, by simp [Ix.see], e1⟩)) with h1 | h1
    · exact h1
    · omega
theorem Jo.start {B M Mo : Nat} {w w0 : World} {b : Nat} {x o : Ix} {mo : Option Nat} {f c : ByteArray → Nat} {N S : Nat} {lf : Lit → Bool} (h : Hk B w b mo f c N x) (hN : N ≤ M) (hc : ∀ n, x.seen n = true → c n ≤ M) (hl : ∀ n, lf (kl n) = o.seen n) (ho : ∀ n, o.seen n = false → ∀ g, o.bits n g = 0) (hg : w.grownBy w0 none) :
    Jo B M Mo w (Th b mo f x) b w.heap.size x o S S lf w0 mo f c N := by
  have e := joinL_start (x := x) hl ho
  have k0 : Kp (fun _ => False) w w0 := Kp.grown hg (fun k e => by cases e)
  refine ⟨by rw [e]; exact h.kp k0 (fun _ _ => id), by omega, fun n hn => ?_, fun k hk => .inl (by rw [e] at hk; exact hk), k0.imp (fun _ _ e => e.elim)⟩
  rw [e] at hn
  have := hc n hn
  split <;> omega
theorem Jo.fin {B M Mo : Nat} {w : World} {T : Nat → Prop} {b r : Nat} {x o : Ix} {S cnt : Nat} {lf : Lit → Bool} {wr : World} {mo : Option Nat} {f c : ByteArray → Nat} {N : Nat} (h : Jo B M Mo w T b r x o S cnt lf wr mo f c N) (hr : r = w.heap.size) (hS : S ≤ Mo) (hl : ∀ l, lf l = false) :
    ∃ T', Hx B (M + Mo) wr b (x.join o) T' ∧ (∀ k, T' k → T k ∨ w.heap.size ≤ k) ∧ Kp T w wr := by
  have e := joinL_end (x := x) (o := o) hl
  have hk := h.hk
  have h1 := h.inT
  have h2 := h.caps
  rw [e] at hk h1 h2
  refine ⟨_, ⟨mo, f, c, N, hk, by have := h.most; omega, fun n hn => ?_, rfl⟩, fun k ht => (h1 k ht).imp id (fun h => by omega), h.kp⟩
  have := h2 n hn
  rw [hl] at this
  simpa using this
end Go.Proofs.Ytmkilckoeaekkaa
