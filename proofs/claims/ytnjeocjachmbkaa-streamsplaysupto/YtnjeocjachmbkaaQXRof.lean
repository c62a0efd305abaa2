/-
  What the reference's Of returns.
-/
import Derived.Test.YtnjeocjachmbkaaQXRadd
namespace Go.Proofs.Ytnjeocjachmbkaa
open Go.RowKit Go.Sort Go.Maps Go.Shelf

set_option maxRecDepth 100000 in
set_option maxHeartbeats 1000000 in
theorem rof_any {B : Nat} {P : Nat → Prop} {w : World} {y : Nat} {most : Int} {sv : Value} {l : List Sm} {nm : ByteArray} (h : Ry B P w y most sv l) (hlen : l.length ≤ 1000) :
    Calls Try.prog 21 #[dp y, .string nm] w fun e w' => ∃ p c, e = .returned (.slice p (ofL nm 0 l).length c) ∧ IntsAt w' (.slice p (ofL nm 0 l).length c) (ofL nm 0 l) ∧ Below w.heap.size w w' := by
  have HBk := hid h.blk
  obtain ⟨p, c, rfl, hcap, hx⟩ := ry_sl h hlen
  have HX := hid hx
  clear hx h
  generalize hn : l.length = n at *
  have HN := hid hn
  clear hn
  go_enter Try.func21, Try.ntmps21
  go_wp2
  go_loopw [5, 6] (fun v i wr => ∃ k : Nat, k ≤ n ∧ i = .int .i64 k ∧ Hid (Own encI 1 3 w.heap.size wr v (ofL nm 0 (l.take k))) ∧ Hid (Below w.heap.size w wr)) (fun _ i _ => n - (intOf i).toNat)
  case atStart => exact ⟨0, by omega, rfl, Own.nil _ _ _ _ _, Below.refl _ _⟩
  case round =>
    obtain ⟨k, hk, rfl, HO, HB⟩ := hrel
    have k0 := block_cell (block_on HBk.out HB.out)
    by_cases hlt : k < n
    · have hk' : k < l.length := by rw [HN.out]; exact hlt
      obtain ⟨s, hs⟩ : ∃ s, l[k]? = some s := ⟨l[k], List.getElem?_eq_getElem hk'⟩
      obtain ⟨g, o, kp, kc, rfl, c0, c1, -⟩ := HX.out k s hs
      have d0 := cell_onB c0 HB.out
      clear c0 c1
      have HT := hid (ofL_take (nm := nm) hs)
      clear hs
      have HLn := hid (Nat.le_trans (ofL_len nm 0 (l.take k)) (List.length_take_le k l))
      by_cases he : s.nm = nm
      · rw [if_pos he] at HT
        rw [he] at d0
        clear he
        go_wp2_with (at_builtin; refine app_any elem3 enci_len (fun x _ => enci_cells x) rfl _ _ rfl rfl (own_kp (T := fun _ => False) HO.out (Kp.of ((Below.refl _ _).alloc (Nat.le_refl _) _)) (fun _ _ => id)) rfl int1 (bs1 (by have := HLn.out; have := HN.out; simp; omega)) (by have := HB.out.size; simp; omega) ?_; intro v' w1 hown hb1)
        go_roundw
        case rel => exact ⟨k + 1, by omega, by go_num, by rw [HT.out]; exact hown, HB.out.trans (((Below.refl _ _).alloc HB.out.size _).trans hb1)⟩
        case measure => simp [intOf]; omega
      · rw [if_neg he, List.append_nil] at HT
        have hne : (s.nm.toList == nm.toList) = false := by rw [bytes_beq]; simpa using he
        clear he
        go_wp2
        go_roundw
        case rel => exact ⟨k + 1, by omega, by go_num, by rw [HT.out]; exact HO.out, HB.out⟩
        case measure => simp [intOf]; omega
    · have hks : k = n := by omega
      subst hks
      have hta : l.take k = l := List.take_of_length_le (by rw [HN.out]; exact Nat.le_refl _)
      rw [hta] at HO
      have HLn := hid (ofL_len nm 0 l)
      go_wp2
      go_ret
      obtain ⟨p3, c3, rfl⟩ := own_formN HO.out rfl
      exact ⟨p3, c3, rfl, (Own.sl HO.out enci_len (bs1 (by have := HLn.out; have := HN.out; omega))).imp (fun _ _ => trivial), HB.out⟩
/- The two dictionaries beside each other: what one does leaves the other. -/
theorem Ry.fk {B : Nat} {P : Nat → Prop} {w w' : World} {y : Nat} {most : Int} {sv : Value} {l : List Sm} (h : Ry B P w y most sv l) {T : Nat → Prop} (hk : Kp T w w') (ht : ∀ (k : Nat) (cs : Array Value) (t : TypeId) (fz : Nat × Nat), w.heap[k]? = some (.cells cs t fz) → t = 39 ∨ t = 53 ∨ (t = 25 ∧ P k) → ¬ T k) : Ry B P w' y most sv l := by
  obtain ⟨hs, ho, hh⟩ := h.row
  refine h.kp hk (ht _ _ _ _ h.blk (.inl rfl)) (fun g hg => ?_) (fun k hk' => ?_)
  · obtain ⟨c, f, hc⟩ := own_kind ho hg
    exact ht _ _ _ _ hc (.inr (.inl rfl))
  · obtain ⟨hp, c, f, hc⟩ := hk'
    exact ht _ _ _ _ hc (.inr (.inr ⟨rfl, hp⟩))
theorem Dk.fk {B : Nat} {P : Nat → Prop} {w w' : World} {b : Nat} {most : Int} {sv : Value} {m : Nat} {l : List Sm} (h : Dk B P w b most sv m l) {T : Nat → Prop} (hk : Kp T w w') (ht : ∀ (k : Nat) (cs : Array Value) (t : TypeId) (fz : Nat × Nat), w.heap[k]? = some (.cells cs t fz) → t = 80 ∨ t = 83 ∨ (t = 25 ∧ P k) → ¬ T k) (hm : ∀ k es c, w.heap[k]? = some (.map es c) → ¬ T k) : Dk B P w' b most sv m l := by
  obtain ⟨hs, ho, hh⟩ := h.row
  obtain ⟨D, hD, ha⟩ := h.map
  obtain ⟨es, c, hb⟩ := map_blk hD
  refine h.kp hk (ht _ _ _ _ h.blk (.inl rfl)) (fun g hg => ?_) (hm _ _ _ hb) (fun k hk' => ?_)
  · obtain ⟨c, f, hc⟩ := own_kind ho hg
    exact ht _ _ _ _ hc (.inr (.inl rfl))
  · obtain ⟨hp, c, f, hc⟩ := hk'
    exact ht _ _ _ _ hc (.inr (.inr ⟨rfl, hp⟩))
end Go.Proofs.Ytnjeocjachmbkaa
