/-
  How the reference's index lies in memory; what its Seen and Bits return.
-/
import Derived.Test.YtmkilckoeaekkaaQHApp
import Derived.Test.YtmkilckoeaekkaaQHRef
namespace Go.Proofs.Ytmkilckoeaekkaa
open Go.RowKit Go.Sort Go.Maps Go.Shelf

theorem bytes_toList_inj {s t : ByteArray} (h : s.toList = t.toList) : s = t := by
  rw [ByteArray.toList_eq, ByteArray.toList_eq] at h
  obtain ⟨⟨x⟩⟩ := s
  obtain ⟨⟨y⟩⟩ := t
  simp at h
  subst h; rfl
theorem bytes_beq (s t : ByteArray) : (s.toList == t.toList) = decide (s = t) := by
  by_cases h : s = t
  · subst h; simp
  · have : ¬ s.toList = t.toList := fun e => h (bytes_toList_inj e)
    simp [h, this]
def En.cells (e : En) : List Value := [.string e.nm, .string e.fd, .int .u64 (u (fw e.b 0)), .int .u64 (u (fw e.b 1)), .int .u64 (u (fw e.b 2)), .int .u64 (u (fw e.b 3))]
theorem en_len (e : En) : e.cells.length = 6 := rfl
theorem en_one (e : En) : ∀ c ∈ e.cells, c.oneCell' = true := by
  intro c hc; simp [En.cells] at hc; rcases hc with rfl | rfl | rfl | rfl | rfl | rfl <;> rfl
theorem info79 : (Try.prog.info? 79).map (fun i => (i.zero, i.size, i.bytes)) = some (some (.agg #[.string ⟨#[]⟩, .string ⟨#[]⟩, .int .u64 0, .int .u64 0, .int .u64 0, .int .u64 0]), 6, 64) := by kernel_rfl
theorem elem79 : ElemN 31 79 6 64 := by
  obtain ⟨i, hi, h0, h1, h2⟩ := info_parts info79
  exact ⟨Try.underlying31, by omega, i, _, hi, h0, h1, Nat.le_of_eq h2, rfl⟩
/- A reference's index: its block, its row of entries. -/
structure Rk (B : Nat) (w : World) (b : Nat) (sv : Value) (l : List En) : Prop where
  bB : B ≤ b
  blk : w.heap[b]? = some (.cells #[sv] 33)
  own : Own En.cells 6 79 B w sv l
def Tr (b : Nat) (sv : Value) (k : Nat) : Prop := k = b ∨ sv.ownBlock = some k
theorem Rk.kp {B : Nat} {w w' : World} {b : Nat} {sv : Value} {l : List En} {T : Nat → Prop} (h : Rk B w b sv l) (hk : Kp T w w') (ht : ∀ k, Tr b sv k → ¬ T k) : Rk B w' b sv l :=
  ⟨h.bB, hk.blk h.blk (ht b (.inl rfl)), h.own.kp hk (fun g hg => ht g (.inr hg))⟩
theorem Rk.on {B : Nat} {w w' : World} {b : Nat} {sv : Value} {l : List En} (h : Rk B w b sv l) (hb : Below w.heap.size w w') : Rk B w' b sv l := h.kp (T := fun _ => False) (Kp.of hb) (fun _ _ => id)
theorem Rk.le {B B' : Nat} {w : World} {b : Nat} {sv : Value} {l : List En} (h : Rk B w b sv l) (hb : B' ≤ B) : Rk B' w b sv l := ⟨Nat.le_trans hb h.bB, h.blk, h.own.le hb⟩
theorem Rk.T_ge {B : Nat} {w : World} {b : Nat} {sv : Value} {l : List En} (h : Rk B w b sv l) : ∀ k, Tr b sv k → B ≤ k := by
  rintro k (rfl | hk)
  · exact h.bB
  · exact (h.own.at hk).1
theorem Rk.T_lt {B : Nat} {w : World} {b : Nat} {sv : Value} {l : List En} (h : Rk B w b sv l) : ∀ k, Tr b sv k → k < w.heap.size := by
  rintro k (rfl | hk)
  · exact lt_of_block h.blk
  · exact (h.own.at hk).2
theorem Rk.T_kind {B : Nat} {w : World} {b : Nat} {sv : Value} {l : List En} (h : Rk B w b sv l) : ∀ k, Tr b sv k → ∃ cs t fz, w.heap[k]? = some (.cells cs t fz) ∧ (t = 33 ∨ t = 79) := by
  rintro k (rfl | hk)
  · exact ⟨_, _, _, h.blk, .inl rfl⟩
  · obtain ⟨c, fz, hc⟩ := h.own.kind hk; exact ⟨_, _, _, hc, .inr rfl⟩
theorem Rk.cell {B : Nat} {w : World} {b : Nat} {sv : Value} {l : List En} (h : Rk B w b sv l) : ∀ o, w.cell? ⟨b, o, none⟩ = #[sv][o]? := block_cell h.blk
/- The entries one by one. -/
structure EnC (w : World) (g o : Nat) (e : En) : Prop where
  c0 : w.cell? ⟨g, o, none⟩ = some (.string e.nm)
  c1 : w.cell? ⟨g, o + 1, none⟩ = some (.string e.fd)
  c2 : w.cell? ⟨g, o + 2, none⟩ = some (.int .u64 (u (fw e.b 0)))
  c3 : w.cell? ⟨g, o + 3, none⟩ = some (.int .u64 (u (fw e.b 1)))
  c4 : w.cell? ⟨g, o + 4, none⟩ = some (.int .u64 (u (fw e.b 2)))
  c5 : w.cell? ⟨g, o + 5, none⟩ = some (.int .u64 (u (fw e.b 3)))
theorem Rk.at {B : Nat} {w : World} {b : Nat} {p : Option Addr} {n c : Nat} {l : List En} (h : Rk B w b (.slice p n c) l) {k : Nat} {e : En} (hk : l[k]? = some e) : ∃ g, p = some ⟨g, 0, none⟩ ∧ EnC w g (k * 6) e ∧ w.frozen? ⟨g, 0, none⟩ = false ∧ ∃ cs, w.heap[g]? = some (.cells cs 79 (0, 0)) := by
  rcases h.own.2 with ⟨hv, h0⟩ | ⟨g, cap, cur, hv, hg, hblk, hc, hm, q⟩
  · have : l = [] := List.eq_nil_of_length_eq_zero h0
    subst this; simp at hk
  · cases hv
    obtain ⟨g', o, hp, _, hcell⟩ := (h.own.sl en_len).at hk
    cases hp
    have hcell' : CellsAt w g (k * 6) e.cells := by have := hcell; rwa [Nat.zero_add] at this
    exact ⟨g, rfl, ⟨hcell' 0 _ rfl, hcell' 1 _ rfl, hcell' 2 _ rfl, hcell' 3 _ rfl, hcell' 4 _ rfl, hcell' 5 _ rfl⟩, block_frozen hblk 0, _, hblk⟩
theorem seenE_no {l : List En} {n : ByteArray} (h : ∀ (j : Nat) e, l[j]? = some e → ¬ e.nm = n) : seenE l n = false := by
  unfold seenE
  rw [Bool.eq_false_iff]
  intro hh
  obtain ⟨e, he, h1⟩ := List.any_eq_true.1 hh
  obtain ⟨j, hj, rfl⟩ := List.getElem_of_mem he
  exact h j _ (List.getElem?_eq_getElem hj) (of_decide_eq_true h1)
theorem seenE_yes {l : List En} {n : ByteArray} {k : Nat} {e : En} (hk : l[k]? = some e) (h : e.nm = n) : seenE l n = true := by
  unfold seenE
  exact List.any_eq_true.2 ⟨e, List.mem_of_getElem? hk, by simp [h]⟩
set_option maxHeartbeats 1000000 in
theorem rseen_any {B : Nat} {w : World} {b : Nat} {sv : Value} {l : List En} (h : Rk B w b sv l) (n : ByteArray) (hl : l.length ≤ 1000000000000) : Calls Try.prog 15 #[dp b, .string n] w fun e w' => e = .returned (.bool (seenE l n)) ∧ w' = w := by
  obtain ⟨p, c, rfl⟩ := h.own.form
  have k0 := h.cell
  have HK := hid h
  generalize hr : seenE l n = r
  have HR := hid hr
  clear h hr
  generalize hln : l.length = ln at *
  have HLn := hid hln
  clear hln
  go_enter Try.func15, Try.ntmps15
  go_wp2_with fail
  go_loopw [5] (fun i wr => ∃ k : Nat, k ≤ ln ∧ i = .int .i64 k ∧ wr = w ∧ Hid (∀ (j : Nat) e, j < k → l[j]? = some e → ¬ e.nm = n)) (fun i _ => ln - (intOf i).toNat)
  case atStart => exact ⟨0, by omega, rfl, rfl, fun j e hj => by omega⟩
  case round =>
    obtain ⟨k, hk, rfl, rfl, HNo⟩ := hrel
    by_cases hlt : k < ln
    · obtain ⟨e, he⟩ : ∃ e, l[k]? = some e := ⟨l[k]'(by rw [HLn.out]; omega), List.getElem?_eq_getElem _⟩
      obtain ⟨g, rfl, hc, _, _⟩ := HK.out.at he
      have c0 := hc.c0
      have hbq := bytes_beq e.nm n
      have HE := hid he
      clear hc he
      by_cases hen : e.nm = n
      · have HEn := hid hen
        rw [decide_eq_true hen] at hbq
        clear hen
        go_wp2
        go_ret
        exact ⟨ret_bool (by rw [← HR.out]; exact (seenE_yes HE.out HEn.out).symm), rfl⟩
      · have HEn := hid hen
        rw [decide_eq_false hen] at hbq
        clear hen
        go_wp2
        go_roundw
        case rel =>
          refine ⟨k + 1, by omega, by go_num, by trivial, fun j e' hj hj' => ?_⟩
          by_cases ej : j = k
          · subst ej
            have := HE.out
            rw [hj'] at this; cases this
            exact HEn.out
          · exact HNo.out j e' (by omega) hj'
        case measure => simp [intOf]; omega
    · go_wp2
      go_ret
      exact ⟨ret_bool (by rw [← HR.out]; exact (seenE_no (fun j e hj => HNo.out j e (by have := (List.getElem?_eq_some_iff.1 hj).1; have := HLn.out; omega) hj)).symm), rfl⟩
end Go.Proofs.Ytmkilckoeaekkaa
