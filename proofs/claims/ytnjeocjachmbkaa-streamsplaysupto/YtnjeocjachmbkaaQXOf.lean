/-
  What Of of package streams returns, for any dictionary.
-/
import Derived.Test.YtnjeocjachmbkaaQXAdd
namespace Go.Proofs.Ytnjeocjachmbkaa
open Go.RowKit Go.Sort Go.Maps

def encI (n : Int) : List Value := [.int .i64 n]
theorem enci_len (n : Int) : (encI n).length = 1 := rfl
theorem enci_cells (n : Int) : ∀ c ∈ encI n, c.oneCell' = true := by intro c hc; simp [encI] at hc; subst hc; rfl
def IntsAt (w : World) (v : Value) (xs : List Int) : Prop := SlAt any encI 1 w v xs
theorem IntsAt.on {w w' : World} {v : Value} {xs : List Int} (h : IntsAt w v xs) (hb : Below w.heap.size w w') : IntsAt w' v xs := SlAt.on h hb
theorem int1 {w : World} {n : Int} : SlAt any encI 1 (w.alloc (.cells #[.int .i64 n] 3)) (.slice (some ⟨w.heap.size, 0, none⟩) 1 1) [n] := by
  refine ⟨_, 1, rfl, ⟨Nat.le_refl _, fun e => by cases e⟩, by simp [maxLen], fun _ => ⟨_, 0, rfl, ⟨trivial, by simp [bsz]⟩, fun j x hj i u hu => ?_⟩⟩
  have hj0 : j = 0 := by have := (List.getElem?_eq_some_iff.1 hj).1; simp at this; omega
  subst hj0
  simp at hj
  subst hj
  have hi : i = 0 := by have := (List.getElem?_eq_some_iff.1 hu).1; simp [encI] at this; omega
  subst hi
  rw [block_cell (alloc_block w _)]
  simpa [encI] using hu
theorem int1' {w : World} {n : Int} (x : Obj) : SlAt any encI 1 ((w.alloc x).alloc (.cells #[.int .i64 n] 3)) (.slice (some ⟨w.heap.size + 1, 0, none⟩) 1 1) [n] := by
  have := int1 (w := w.alloc x) (n := n)
  rwa [World.size_alloc] at this
structure HdCells (w : World) (b o : Nat) (h : Hd) : Prop where
  c0 : w.cell? ⟨b, o, none⟩ = some (.string h.nm)
  c1 : w.cell? ⟨b, o + 1, none⟩ = some h.kv
theorem hd_at {w : World} {b o : Nat} {h : Hd} (x : CellsAt w b o h.cells) : HdCells w b o h := ⟨x 0 _ rfl, x 1 _ rfl⟩
theorem bs2 {n : Nat} (h : n ≤ 1000) : n * bsz 2 ≤ 140737488355328 := by unfold bsz; simp; omega
theorem bs1 {n : Nat} (h : n ≤ 2000000) : n * bsz 1 ≤ 140737488355328 := by unfold bsz; simp; omega
/- The headers, one by one. -/
theorem dk_sl {B : Nat} {P : Nat → Prop} {w : World} {b : Nat} {most : Int} {sv : Value} {m : Nat} {l : List Sm} (h : Dk B P w b most sv m l) (hlen : l.length ≤ 1000) :
    ∃ p c, sv = .slice p l.length c ∧ l.length ≤ c ∧ ∀ j s, l[j]? = some s → ∃ g o kp kc, p = some ⟨g, o, none⟩ ∧ w.cell? ⟨g, o + j * 2, none⟩ = some (.string s.nm) ∧ w.cell? ⟨g, o + j * 2 + 1, none⟩ = some (.slice kp (List.length s.ks) kc) ∧ RowIn (ty25 P w) w (.slice kp (List.length s.ks) kc) s.ks := by
  obtain ⟨hs, ho, hh⟩ := h.row
  obtain ⟨p, c, hv, hc, hm, hx⟩ := Own.sl ho hd_len (bs2 (by rw [hh.1]; exact hlen))
  refine ⟨p, c, by rw [hv, hh.1], by have := hc.1; rw [hh.1] at this; exact this, fun j s hj => ?_⟩
  have hjl : j < hs.length := by rw [hh.1]; exact (List.getElem?_eq_some_iff.1 hj).1
  obtain ⟨g, o, hp, -, hcell⟩ := hx (by intro e; subst e; simp at hjl)
  obtain ⟨hnm, hrow⟩ := hh.2 j _ _ (List.getElem?_eq_getElem hjl) hj
  obtain ⟨c0, c1⟩ := hd_at (hcell j _ (List.getElem?_eq_getElem hjl))
  obtain ⟨kp, kc, hk, hr⟩ := hrow
  rw [hnm] at c0
  rw [hk] at c1
  exact ⟨g, o, kp, kc, hp, c0, c1, kp, kc, rfl, hr⟩
theorem ofL_take {nm : ByteArray} {l : List Sm} {k : Nat} {s : Sm} (h : l[k]? = some s) : ofL nm 0 (l.take (k + 1)) = ofL nm 0 (l.take k) ++ (if s.nm = nm then [(k : Int)] else []) := by
  have hk := (List.getElem?_eq_some_iff.1 h).1
  rw [List.take_add_one, h]
  show ofL nm 0 (l.take k ++ [s]) = _
  rw [ofL_snoc]
  have e : 0 + (l.take k).length = k := by rw [List.length_take]; omega
  rw [e]
set_option maxRecDepth 100000 in
set_option maxHeartbeats 1000000 in
theorem of_any {B : Nat} {P : Nat → Prop} {w : World} {b : Nat} {most : Int} {sv : Value} {m : Nat} {l : List Sm} {nm : ByteArray} (h : Dk B P w b most sv m l) (hlen : l.length ≤ 1000) :
    Calls Try.prog 20 #[dp b, .string nm] w fun e w' => ∃ p c, e = .returned (.slice p (ofL nm 0 l).length c) ∧ IntsAt w' (.slice p (ofL nm 0 l).length c) (ofL nm 0 l) ∧ Below w.heap.size w w' := by
  have k0 := block_cell h.blk
  obtain ⟨p, c, rfl, hcap, hx⟩ := dk_sl h hlen
  have HX := hid hx
  clear hx h
  generalize hn : l.length = n at *
  have HN := hid hn
  clear hn
  go_enter Try.func20, Try.ntmps20
  go_wp2
  clear k0
  go_loopw [5, 13] (fun v i wr => ∃ k : Nat, k ≤ n ∧ i = .int .i64 k ∧ Hid (Own encI 1 3 w.heap.size wr v (ofL nm 0 (l.take k))) ∧ Hid (Below w.heap.size w wr)) (fun _ i _ => n - (intOf i).toNat)
  case atStart => exact ⟨0, by omega, rfl, Own.nil _ _ _ _ _, Below.refl _ _⟩
  case round =>
    obtain ⟨k, hk, rfl, HO, HB⟩ := hrel
    by_cases hlt : k < n
    · have hk' : k < l.length := by rw [HN.out]; exact hlt
      obtain ⟨s, hs⟩ : ∃ s, l[k]? = some s := ⟨l[k], List.getElem?_eq_getElem hk'⟩
      obtain ⟨g, o, kp, kc, rfl, c0, c1, -⟩ := HX.out k s hs
      have d0 := cell_onB c0 HB.out
      have d1 := cell_onB c1 HB.out
      clear c0 c1
      have HT := hid (ofL_take (nm := nm) hs)
      clear hs
      have HLn := hid (Nat.le_trans (ofL_len nm 0 (l.take k)) (List.length_take_le k l))
      by_cases he : s.nm = nm
      · rw [if_pos he] at HT
        rw [he] at d0
        clear he
        go_wp2_with (at_builtin; refine app_any elem3 enci_len (fun x _ => enci_cells x) rfl _ _ rfl rfl (own_kp (T := fun _ => False) HO.out (Kp.of (((Below.refl _ _).alloc (Nat.le_refl _) _).alloc (by simp) _)) (fun _ _ => id)) rfl (int1' _) (bs1 (by have := HLn.out; have := HN.out; simp; omega)) (by have := HB.out.size; simp; omega) ?_; intro v' w1 hown hb1)
        go_roundw
        case rel => exact ⟨k + 1, by omega, by go_num, by rw [HT.out]; exact hown, HB.out.trans ((((Below.refl _ _).alloc HB.out.size _).alloc (by have := HB.out.size; simp; omega) _).trans hb1)⟩
        case measure => simp [intOf]; omega
      · rw [if_neg he, List.append_nil] at HT
        have hne : (s.nm.toList == nm.toList) = false := by rw [bytes_beq]; simpa using he
        clear he
        go_wp2
        go_roundw
        case rel => exact ⟨k + 1, by omega, by go_num, by rw [HT.out]; exact own_kp (T := fun _ => False) HO.out (Kp.of ((Below.refl _ _).alloc (Nat.le_refl _) _)) (fun _ _ => id), HB.out.alloc HB.out.size _⟩
        case measure => simp [intOf]; omega
    · have hks : k = n := by omega
      subst hks
      have hta : l.take k = l := List.take_of_length_le (by rw [HN.out]; exact Nat.le_refl _)
      rw [hta] at HO
      have HLn := hid (ofL_len nm 0 l)
      go_wp2
      go_ret
      obtain ⟨p3, c3, rfl⟩ := own_formN HO.out rfl
      exact ⟨p3, c3, rfl, (Own.sl HO.out enci_len (bs1 (by have := HLn.out; have := HN.out; omega))).imp (fun _ _ => trivial), HB.out⟩
end Go.Proofs.Ytnjeocjachmbkaa
