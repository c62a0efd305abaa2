/-
  What Clone of package streams returns, for any dictionary.
-/
import Derived.Test.YtnjeocjachmbkaaQXKeys
namespace Go.Proofs.Ytnjeocjachmbkaa
open Go.RowKit Go.Sort Go.Maps Go.Shelf

set_option maxRecDepth 100000 in
set_option maxHeartbeats 2000000 in
theorem mapClone (b : Nat) (es : Array MapEntry) (clock : Nat) (w : World) (hb : w.heap[b]? = some (.map es clock)) :
    Calls Try.prog 37 #[.map (some b)] w fun e w' => e = .returned (.map (some w.heap.size)) ∧ w' = w.alloc (.map es clock) := by
  have hq := fun w => run_eql_map_nil_sl (P := Try.prog) w 77 _ _ (some b) Try.underlying77
  go_enter Try.func37, Try.ntmps37
  go_wp2
  rw [run_callFunc_extern Try.func55 (by kernel_rfl) (by kernel_rfl) (by kernel_rfl) (e := Extern.MapsClone.clone) (by kernel_rfl), run_maps_clone_sl w 77 hb]
  simp only [Result.andThen]
  rw [Oper.upon_value]
  go_wp2
  rw [run_typeAssert_map_sl _ 77 20 _ _ _ Try.underlying77]
  simp only [Result.andThen]
  rw [Oper.upon_value]
  go_wp2
  go_ret
  exact ⟨rfl, rfl⟩
theorem mapClone_any {m n : Nat} {D : D1} {w : World} (h : w.ownsMap Try.prog 9 (plainElem Try.prog 3) m n D) :
    Calls Try.prog 37 #[.map (some m)] w fun e w' => e = .returned (.map (some w.heap.size)) ∧ w'.ownsMap Try.prog 9 (plainElem Try.prog 3) w.heap.size n D ∧ Below w.heap.size w w' := by
  obtain ⟨es, clock, hb, F, hs, hD⟩ := h
  refine (mapClone m es clock w hb).mono fun e w' ⟨he, hw⟩ => ?_
  subst hw
  exact ⟨he, ⟨es, clock, alloc_block w _, F, hs, hD⟩, (Below.refl _ w).alloc (Nat.le_refl _) _⟩
theorem app_N {ops : Array Oper} {rest : List Oper} {o : Oper} {a : Act} {Q : Exit → Act → World → Prop} {w : World} {α : Type} {enc : α → List Value} {k e t B N : Nat} {Qb : Nat → Prop} {xs ys : List α} {v u : Value}
    (hE : ElemN t e k N) (hk : ∀ x, (enc x).length = k) (h1 : ∀ y ∈ ys, ∀ c ∈ enc y, c.oneCell' = true) (hgd : o.guard = none) (s x : Operand) (ho : o.op = .call { callee := .builtin .append, args := #[s, x], argTypes := #[t, t] })
    (hs : a.eval s = v) (hown : Own enc k e B w v xs) (hx : a.eval x = u) (hu : SlAt Qb enc k w u ys) (hb : (xs.length + ys.length) * N ≤ 140737488355328) (hN : 1 ≤ N) (hB : B ≤ w.heap.size)
    (h : ∀ v' w', Own enc k e B w' v' (xs ++ ys) → w.grownBy w' v.ownBlock → wpList Try.prog ops Q rest (a.put o.dst v') w') : wpList Try.prog ops Q (o :: rest) a w := by
  refine wpList_plain hgd fun K hK => ?_
  have := step_appN (ops := ops) (K := K) (Q := Q) (E := True) hE hk h1 hgd s x ho hs hx hown hu hb hN hB (fun v' w' h2 h3 => hK _ _ (h v' w' h2 h3))
  have hw : Region.wanted o (yielded ops a.tmps) = true := by simp [Region.wanted, hgd]
  rw [if_pos hw] at this
  exact this
set_option maxRecDepth 100000 in
set_option maxHeartbeats 400000 in
theorem cloneS_any {B : Nat} {sv : Value} {hs : List Hd} {w : World} (ho : Own Hd.cells 2 83 B w sv hs) (hk : ∀ h ∈ hs, h.kv.oneCell' = true) (hl : hs.length ≤ 1000) :
    Calls Try.prog 36 #[sv] w fun e w' => ∃ p c, e = .returned (.slice p hs.length c) ∧ Own Hd.cells 2 83 w.heap.size w' (.slice p hs.length c) hs ∧ Below w.heap.size w w' := by
  have q22 : ∀ (w : World) (a : Option Addr) (n c n' c' : Nat), (binOp .eql 78 (.slice a n c) (.slice none n' c')).run Try.prog w = .ok (.bool a.isNone) w := fun w a n c n' c' => Lib.run_eql_slice_nil w _ _ a n c n' c' Try.underlying78
  have HK := hid hk
  have HL := hid hl
  have HS := hid (Own.sl ho hd_len (bs2 hl))
  obtain ⟨p, cap, rfl⟩ := own_formN ho rfl
  clear ho hk hl
  generalize hn : hs.length = n at *
  have HN := hid hn
  clear hn
  cases p with
  | none =>
    have hn := SlAt.empty HS.out
    subst hn
    obtain rfl : n = 0 := HN.out.symm
    go_enter Try.func36, Try.ntmps36
    go_wp2
    go_ret
    exact ⟨none, 0, rfl, Own.nil _ _ _ _ _, Below.refl _ _⟩
  | some ad =>
    go_enter Try.func36, Try.ntmps36
    go_wp2_with (at_builtin; refine app_N (N := 40) elem83 hd_len (fun x hx => hd_cells (HK.out x hx)) rfl _ _ rfl rfl (Own.made Hd.cells 2 83 w.heap.size w (Nat.le_refl _)) rfl (SlAt.on HS.out ((Below.refl _ _).alloc (Nat.le_refl _) _)) (by have := HL.out; simp only [List.length_nil]; rw [HN.out]; omega) (by decide) (by simp) ?_; intro v' w1 hown hg1)
    go_ret
    rw [List.nil_append] at hown
    obtain ⟨p, c, rfl⟩ := own_formN hown HN.out
    refine ⟨p, c, rfl, hown, ?_⟩
    exact ((Below.refl _ _).alloc (Nat.le_refl _) _).trans ((Below.refl _ _).grown hg1 (by simp) (fun k e => by cases e; exact Nat.le_refl _))
abbrev C3 (b : Nat) (x y z : Value) (w : World) : Prop := w.cell? ⟨b, 0, none⟩ = some x ∧ w.cell? ⟨b, 1, none⟩ = some y ∧ w.cell? ⟨b, 2, none⟩ = some z
theorem c3D {b : Nat} {x y z : Value} {w : World} (h : C3 b x y z w) : C3 b x y z w.drew := h
theorem c3A {b : Nat} {x y z : Value} {w : World} (h : C3 b x y z w) (o : Obj) : C3 b x y z (w.alloc o) := ⟨Lib.cell?_alloc_some _ h.1, Lib.cell?_alloc_some _ h.2.1, Lib.cell?_alloc_some _ h.2.2⟩
theorem c3On {b : Nat} {x y z : Value} {w w' : World} (h : C3 b x y z w) (hb : Below w.heap.size w w') : C3 b x y z w' := ⟨cell_onB h.1 hb, cell_onB h.2.1 hb, cell_onB h.2.2 hb⟩
theorem enters36 : ∀ args w, (callFunc 36 args).run Try.prog w = .ok (.enter 36 args) w := enters_of Try.func36 (by kernel_rfl) rfl
theorem enters37 : ∀ args w, (callFunc 37 args).run Try.prog w = .ok (.enter 37 args) w := enters_of Try.func37 (by kernel_rfl) rfl
theorem heads_one {P : Nat → Prop} {w : World} {hs : List Hd} {l : List Sm} (h : HeadsD P w hs l) : ∀ x ∈ hs, x.kv.oneCell' = true := by
  intro x hx
  obtain ⟨j, hj, rfl⟩ := List.getElem_of_mem hx
  have hjl : j < l.length := by rw [← h.1]; exact hj
  obtain ⟨-, p, c, hv, -⟩ := h.2 j _ _ (List.getElem?_eq_getElem hj) (List.getElem?_eq_getElem hjl)
  rw [hv]; rfl
set_option maxRecDepth 100000 in
set_option maxHeartbeats 1000000 in
theorem clone_any {B : Nat} {P : Nat → Prop} {w : World} {b : Nat} {most : Int} {sv : Value} {m : Nat} {l : List Sm} (h : Dk B P w b most sv m l) (hlen : l.length ≤ 1000) :
    Calls Try.prog 14 #[dp b] w fun e w' => ∃ b' sv' m', e = .returned (dp b') ∧ Dk w.heap.size P w' b' most sv' m' l ∧ Below w.heap.size w w' := by
  have k0 := block_cell h.blk
  obtain ⟨hs, ho, hh⟩ := h.row
  obtain ⟨D, hD, hA⟩ := h.map
  obtain ⟨p, c, rfl⟩ := own_formN ho hh.1
  have HO := hid ho
  have HH := hid hh
  have HD := hid hD
  have HA := hid hA
  have HDc := hid h.dc
  have hhl := hh.1
  have HL : Hid (hs.length ≤ 1000) := by show _ ≤ _; rw [hhl]; exact hlen
  have HHL := hid hhl
  have hS0 : C3 b (.int .i64 most) (.slice p l.length c) (.map (some m)) w := ⟨k0 0, k0 1, k0 2⟩
  have HS := hid hS0
  have M1 : Hid True := trivial
  clear h ho hh hD hA k0 hlen hhl
  generalize hn : l.length = n at *
  have HN := hid hn
  clear hn
  go_enter Try.func14, Try.ntmps14
  go_wp2_with fail
  go_region_held3 (C3 b (.int .i64 most) (.slice p n c) (.map (some m))) (((repeat (first | (with_reducible refine c3D ?_) | (with_reducible refine c3A ?_ _))); (with_reducible assumption)))
    (first
    | (have FIRST := M1; refine step_callC (v := .slice p n c) rfl (.tmp 10) 78 rfl (by simp [Act.eval]) enters36 ?_; refine (cloneS_any (own_kp (T := fun _ => False) HO.out (Kp.of (Below.refl _ _).drew) (fun _ _ => id)) (heads_one HH.out) HL.out).mono ?_; rintro e w2 ⟨p2, c2, rfl, ho2, hb2⟩; rw [HHL.out] at ho2 ⊢; refine ⟨_, rfl, ?_⟩; have HO2 : Hid (Own Hd.cells 2 83 w.heap.size w2 (.slice p2 n c2) hs) := ho2; have HB2 : Hid (Below w.heap.size w w2) := (Below.refl w.heap.size w).drew.trans hb2; have hS2 := c3On HS.out HB2.out; have M2 : Hid True := trivial; clear ho2 hb2 hS0 FIRST M1)
    | (have FIRST := M2; refine step_callC (v := .map (some m)) rfl (.tmp 15) 77 rfl (by simp [Act.eval]) enters37 ?_; refine (mapClone_any (map_kp (T := fun _ => False) HD.out (Kp.of HB2.out) id)).mono ?_; rintro e w3 ⟨rfl, hm3, hb3⟩; refine ⟨_, rfl, ?_⟩; have HM3 := hid hm3; have HB3 := hid hb3; have hS3 := c3On hS2 hb3; clear hm3 hb3 FIRST M2))
  go_wp2_with fail
  go_ret
  have hb3 : Below w.heap.size w w3 := HB2.out.trans (HB3.out.mono HB2.out.size)
  have hb4 := hb3.alloc hb3.size (.cells #[.int .i64 most, .slice p2 n c2, .map (some w2.heap.size)] 80)
  have hb24 : Below w2.heap.size w2 (w3.alloc (.cells #[.int .i64 most, .slice p2 n c2, .map (some w2.heap.size)] 80)) := HB3.out.alloc HB3.out.size _
  refine ⟨w3.heap.size, .slice p2 n c2, w2.heap.size, rfl, ⟨hb3.size, HB2.out.size, alloc_block _ _, ⟨hs, own_kp (T := fun _ => False) HO2.out (Kp.of hb24) (fun _ _ => id), HH.out.kp (T := fun _ => False) (Kp.of hb4) (fun _ _ => id)⟩, ⟨D, by rw [HN.out]; exact map_kp (T := fun _ => False) HM3.out (Kp.of ((Below.refl _ _).alloc (Nat.le_refl _) _)) id, HA.out⟩, HDc.out⟩, hb4⟩
end Go.Proofs.Ytnjeocjachmbkaa
