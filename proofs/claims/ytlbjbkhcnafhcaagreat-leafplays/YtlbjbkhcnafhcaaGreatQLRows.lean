/-
  What rowsOf of package leaf returns: the rows of one stream's samples of some time.
-/
import Derived.Test.YtlbjbkhcnafhcaaGreatQLHas
import Derived.Test.YtlbjbkhcnafhcaaGreatQLCat
import Derived.Test.YtlbjbkhcnafhcaaGreatQRnRange
namespace Go.Proofs.YtlbjbkhcnafhcaaGreat
open Go.RowKit Go.Sort Go.Shelf Go.Maps

/- One header a row, the rows in blocks of values. -/
def HeadsP (Q : Nat → Prop) (w : World) (hs : List Value) (rs : List Rw) : Prop := hs.length = rs.length ∧ ∀ (j : Nat) h r, hs[j]? = some h → rs[j]? = some r → RowIn (ty36 Q w) w h r
theorem HeadsP.kp {Q T : Nat → Prop} {w w' : World} {hs : List Value} {rs : List Rw} (h : HeadsP Q w hs rs) (hk : Kp T w w') (ht : ∀ k, ty36 Q w k → ¬ T k) : HeadsP Q w' hs rs := ⟨h.1, fun j x r h1 h2 => row_kp (h.2 j x r h1 h2) hk ht⟩
theorem HeadsP.on {Q : Nat → Prop} {w w' : World} {hs : List Value} {rs : List Rw} (h : HeadsP Q w hs rs) (hb : Below w.heap.size w w') : HeadsP Q w' hs rs := h.kp (T := fun _ => False) (Kp.of hb) (fun _ _ => id)
theorem HeadsP.nil (Q : Nat → Prop) (w : World) : HeadsP Q w [] [] := ⟨rfl, fun j h r h1 _ => by simp at h1⟩
theorem HeadsP.snoc {Q : Nat → Prop} {w : World} {hs : List Value} {rs : List Rw} {h : Value} {r : Rw} (hh : HeadsP Q w hs rs) (hr : RowIn (ty36 Q w) w h r) : HeadsP Q w (hs ++ [h]) (rs ++ [r]) := by
  refine ⟨by simp [hh.1], fun j x q h1 h2 => ?_⟩
  by_cases hlt : j < hs.length
  · rw [List.getElem?_append_left hlt] at h1
    rw [List.getElem?_append_left (by rw [← hh.1]; exact hlt)] at h2
    exact hh.2 j x q h1 h2
  · have hj : j = hs.length := by have := (List.getElem?_eq_some_iff.1 h1).1; simp at this; omega
    subst hj
    rw [List.getElem?_append_right (Nat.le_refl _)] at h1
    rw [hh.1, List.getElem?_append_right (Nat.le_refl _)] at h2
    simp at h1 h2
    subst h1 h2
    exact hr
theorem HeadsP.app {Q : Nat → Prop} {w : World} {hs gs : List Value} {rs qs : List Rw} (h : HeadsP Q w hs rs) (g : HeadsP Q w gs qs) : HeadsP Q w (hs ++ gs) (rs ++ qs) := by
  refine ⟨by simp [h.1, g.1], fun j x q h1 h2 => ?_⟩
  by_cases hlt : j < hs.length
  · rw [List.getElem?_append_left hlt] at h1
    rw [List.getElem?_append_left (by rw [← h.1]; exact hlt)] at h2
    exact h.2 j x q h1 h2
  · rw [List.getElem?_append_right (by omega)] at h1
    rw [List.getElem?_append_right (by rw [← h.1]; omega), ← h.1] at h2
    exact g.2 _ x q h1 h2
theorem HeadsP.imp {Q Q' : Nat → Prop} {w : World} {hs : List Value} {rs : List Rw} (h : HeadsP Q w hs rs) (hq : ∀ k, k < w.heap.size → Q k → Q' k) : HeadsP Q' w hs rs := ⟨h.1, fun j x r h1 h2 => row_P (h.2 j x r h1 h2) hq⟩
theorem HeadsP.at {Q : Nat → Prop} {w : World} {hs : List Value} {rs : List Rw} (h : HeadsP Q w hs rs) : HeadsIn any w hs rs := ⟨h.1, fun j x r h1 h2 => (h.2 j x r h1 h2).imp fun _ _ => trivial⟩
theorem headsP_cells {Q : Nat → Prop} {w : World} {hs : List Value} {rs : List Rw} (h : HeadsP Q w hs rs) : ∀ x ∈ hs, ∀ c ∈ one x, c.oneCell' = true := by
  intro x hx c hc
  obtain ⟨j, hj, rfl⟩ := List.getElem_of_mem hx
  have hjl : j < rs.length := by rw [← h.1]; exact hj
  obtain ⟨p, c', hv, -⟩ := h.2 j _ _ (List.getElem?_eq_getElem hj) (List.getElem?_eq_getElem hjl)
  simp [one] at hc
  subst hc
  rw [hv]; rfl
theorem off32 {B : Nat} {Q : Nat → Prop} {w : World} {v : Value} {hs : List Value} (h : Own one 1 32 B w v hs) {k : Nat} (hk : ty36 Q w k) : ¬ v.ownBlock = some k := fun e => by
  obtain ⟨c, f, hc⟩ := own_kind h e
  obtain ⟨-, c', f', hc'⟩ := hk
  rw [hc] at hc'; cases hc'
abbrev vA11 (n : Int) : Array Value := #[.int .i64 1, .int .i64 n, .string ⟨#[]⟩, .int .i64 0, .int .i64 0, .int .i64 0, .int .i64 0, .int .i64 0, .int .i64 0, .int .i64 0, .int .i64 0]
theorem row_lit {w : World} {B : Nat} {n : Int} (h : w.heap[B]? = some (.cells (vA11 n) 40)) : RowAt w (.slice (some ⟨B, 0, none⟩) 1 1) [vT n] := by
  refine ⟨_, 1, rfl, ⟨Nat.le_refl _, fun e => by cases e⟩, by simp [maxLen], fun _ => ⟨B, 0, rfl, ⟨trivial, by simp [bsz]⟩, fun j x hj i u hu => ?_⟩⟩
  have hj0 : j = 0 := by have := (List.getElem?_eq_some_iff.1 hj).1; simp at this; omega
  subst hj0
  simp at hj
  subst hj
  rw [block_cell h]
  simpa [Vl.cells, vT] using hu
theorem one_lit {w : World} {B : Nat} {v : Value} (h : w.heap[B]? = some (.cells #[v] 32)) : SlAt any one 1 w (.slice (some ⟨B, 0, none⟩) 1 1) [v] := by
  refine ⟨_, 1, rfl, ⟨Nat.le_refl _, fun e => by cases e⟩, by simp [maxLen], fun _ => ⟨B, 0, rfl, ⟨trivial, by simp [bsz]⟩, fun j x hj i u hu => ?_⟩⟩
  have hj0 : j = 0 := by have := (List.getElem?_eq_some_iff.1 hj).1; simp at this; omega
  subst hj0
  simp at hj
  subst hj
  rw [block_cell h]
  simpa [one] using hu
theorem bs24 {n m : Nat} (h : n ≤ 1000) (h' : m ≤ 1000) : (n + m) * bsz 1 ≤ 140737488355328 := by unfold bsz; simp; omega
def rowSm (s : Sm) (y : Sp) : Rw := vT y.t :: (s.ks ++ y.vs)
theorem vT_cells (n : Int) : (vT n).cells.toArray = #[.int .i64 1, .int .i64 n, .string ⟨#[]⟩, .int .i64 0, .int .i64 0, .int .i64 0, .int .i64 0, .int .i64 0, .int .i64 0, .int .i64 0, .int .i64 0] := rfl
theorem takeM {L : List Sp} {s : Sm} {k : Nat} {y : Sp} (h : L[k]? = some y) : (L.take (k + 1)).map (rowSm s) = (L.take k).map (rowSm s) ++ [rowSm s y] := by rw [List.take_add_one, h]; simp
set_option maxRecDepth 100000 in
set_option maxHeartbeats 4000000 in
theorem rowsOf_any {B : Nat} {P : Nat → Prop} {w : World} {b : Nat} {S : List Sc} {room : Int} {x : Lx} {l : List Sm} {R : List (List Sp)} {n j : Nat} {s : Sm} {q : List Sp} {a z : Int} (h : Lk B P w b S room x l R n) (hj : l[j]? = some s) (hq : R[j]? = some q) (hlen : l.length ≤ 254) (hql : q.length ≤ 254) (hks : List.length s.ks ≤ 1000) (hvs : ∀ y ∈ q, List.length y.vs ≤ 1000) :
    Calls Tryz.prog 35 #[dp b, .int .i64 (j : Int), .int .i64 a, .int .i64 z] w fun e w' => ∃ v hs, e = .returned v ∧ Own one 1 32 w.heap.size w' v hs ∧ HeadsP any w' hs ((RN.rngS q a z).map (rowSm s)) ∧ Below w.heap.size w w' := by
  have HL := hid h
  have k0 := block_cell h.dk.blk
  obtain ⟨r, q', hr1, hq1, hrk⟩ := rs_at h hj
  rw [hq] at hq1
  cases hq1
  have HRk := hid hrk
  obtain ⟨D, hD, hA⟩ := h.map
  have HD := hid hD
  have HA := hid hA
  have HBj : Hid ((x.rs.map Rm.b)[j]? = some r.b) := by show _ = _; rw [List.getElem?_map, hr1]; rfl
  have hjl := (List.getElem?_eq_some_iff.1 hj).1
  have hj1000 : j ≤ 1000 := by omega
  have HLen : Hid (l.length ≤ 1000) := by show _ ≤ _; omega
  have HQ : Hid (q.length ≤ 500) := by show _ ≤ _; omega
  have EK : Hid (SN.keyS l (j : Int) = s ∧ SN.inB l (j : Int) = true) := SN.keyS_in hj
  have HKs := hid hks
  have HVs : Hid (∀ y ∈ RN.rngS q a z, List.length y.vs ≤ 1000) := fun y hy => hvs y (RN.rng_mem.1 hy).1
  have HRl : Hid ((RN.rngS q a z).length ≤ 254) := Nat.le_trans (RN.rng_len q a z) hql
  clear h hrk hD hA hr1 hq hj hjl hlen hql hks hvs
  go_enter Tryz.func35, Tryz.ntmps35
  go_wp2_with (first
    | (go_at_call 60; refine (SN.keys_any (i := (j : Int)) HL.out.dk HLen.out).mono ?_; rintro e w1 ⟨p1, c1, rfl, hr1, hb1⟩; rw [EK.out.1, EK.out.2]; rw [EK.out.1] at hr1; have HR1 := hid hr1; have HB1 := hid hb1; have hc6 : w1.cell? ⟨b, 6, none⟩ = some (.map (some x.sm)) := SN.cell_onB (k0 6) hb1; have hlk : (Instr.lookup 70 (.map (some x.sm)) (.int .i64 (j : Int)) false).run Tryz.prog w1 = .ok (dp r.b) w1 := look_in (pmap_kp (T := fun _ => False) HD.out (Kp.of hb1) id) HA.out HBj.out hj1000; clear hr1 hb1 k0)
    | (go_at_call 61; refine (RN.range_any (Q := any) (a := a) (z := z) (HRk.out.on HB1.out) HQ.out (fun _ _ => trivial)).mono ?_; rintro e w2 ⟨v2, hs2, rfl, ho2, hh2, hb2⟩; obtain ⟨p2, c2, rfl, hc2, hx2⟩ := RN.own_sl ho2 hh2 (Nat.le_trans HRl.out (by decide)); have HX2 := hid hx2; have HB2 := hid (HB1.out.trans (hb2.mono HB1.out.size)); have HR2 := hid (HR1.out.on hb2); clear ho2 hh2 hb2 hx2 hlk hc6))
  generalize hLq : RN.rngS q a z = L at *
  have HLq := hid hLq
  clear hLq
  generalize hn2 : L.length = n2 at *
  have HN2 := hid hn2
  have hn254 : n2 ≤ 254 := HRl.out
  clear hn2
  generalize hks : List.length s.ks = nk at *
  have HNk := hid hks
  clear hks
  go_loopw [12, 35] (fun v i wr => ∃ (k : Nat) (hs' : List Value), k ≤ n2 ∧ i = .int .i64 k ∧ Hid (Own one 1 32 w2.heap.size wr v hs') ∧ Hid (HeadsP any wr hs' ((L.take k).map (rowSm s))) ∧ Hid (Below w2.heap.size w2 wr)) (fun _ i _ => n2 - (intOf i).toNat)
  case atStart => exact ⟨0, [], by omega, rfl, Own.nil _ _ _ _ _, HeadsP.nil _ _, Below.refl _ _⟩
  case round =>
    obtain ⟨k, hs', hk, rfl, HO, HR, HB⟩ := hrel
    by_cases hlt : k < n2
    · have hk' : k < L.length := by rw [HN2.out]; exact hlt
      obtain ⟨y, hy⟩ : ∃ y, L[k]? = some y := ⟨L[k], List.getElem?_eq_getElem hk'⟩
      obtain ⟨g, o, kp, kc, rfl, c0, c1, hrw⟩ := HX2.out k y hy
      have d0 := SN.cell_onB c0 HB.out
      have d1 := SN.cell_onB c1 HB.out
      have HRw := hid (hrw.at.on HB.out)
      have HT := hid (takeM (s := s) hy)
      have HYv := hid (HVs.out y (List.mem_of_getElem? hy))
      have HR3 := hid (HR2.out.on HB.out)
      have hlen' : hs'.length ≤ 254 := by have := HR.out.1; rw [List.length_map, List.length_take] at this; omega
      have HLn' := hid hlen'
      clear c0 c1 hrw hy hk' hlen' HX2
      generalize hnv : List.length y.vs = nv at *
      have HNv := hid hnv
      clear hnv
      obtain ⟨pr, cr, rfl⟩ := own_formN HO.out rfl
      go_upto_region 7 with fail
      have hb1 : Below wr.heap.size wr (wr.alloc (.cells #[.int .i64 y.t, .slice kp nv kc] 105)) := (Below.refl _ _).alloc (Nat.le_refl _) _
      have hb2 : Below wr.heap.size wr ((wr.alloc (.cells #[.int .i64 y.t, .slice kp nv kc] 105)).alloc (.cells (vA11 y.t) 40)) := hb1.alloc hb1.size _
      have HB3 := hid hb2
      have K1 := hid (block_on (alloc_block wr (.cells #[.int .i64 y.t, .slice kp nv kc] 105)) ((Below.refl _ _).alloc (Nat.le_refl _) (.cells (vA11 y.t) 40)))
      have hK2 := alloc_block (wr.alloc (.cells #[.int .i64 y.t, .slice kp nv kc] 105)) (.cells (vA11 y.t) 40)
      rw [World.size_alloc] at hK2
      have K2 := hid hK2
      have HRw4 := hid (HRw.out.on hb2)
      have HR4 := hid (HR3.out.on hb2)
      have HO4 := hid (own_kp (T := fun _ => False) HO.out (Kp.of hb2) (fun _ _ => id))
      have HH4 := hid (HR.out.on hb2)
      have HB4 := hid (HB.out.trans (hb2.mono HB.out.size))
      clear hK2 hb1 hb2 HB3 HRw HR3 HO HR d0 d1
      generalize wr.heap.size = BX at *
      generalize ((wr.alloc (.cells #[.int .i64 y.t, .slice kp nv kc] 105)).alloc (.cells (vA11 y.t) 40)) = W at *
      have k1 := block_cell K1.out
      have k2 := block_cell K2.out
      have k1a : ∀ (A : Obj) (i : Nat), (W.alloc A).cell? ⟨BX, i, none⟩ = (#[.int .i64 y.t, .slice kp nv kc] : Array Value)[i]? := fun A i => block_cell (block_on K1.out ((Below.refl _ _).alloc (Nat.le_refl _) A)) i
      have HBa := hid ((Below.refl W.heap.size W).alloc (Nat.le_refl _) (.cells (vA11 y.t) 40))
      have HBb := hid (HBa.out.alloc HBa.out.size (.cells #[.slice (some ⟨W.heap.size, 0, none⟩) 1 1, .slice p1 nk c1, .slice kp nv kc] 32))
      have hKa := block_on (alloc_block W (.cells (vA11 y.t) 40)) ((Below.refl _ _).alloc (Nat.le_refl _) (.cells #[.slice (some ⟨W.heap.size, 0, none⟩) 1 1, .slice p1 nk c1, .slice kp nv kc] 32))
      have hKb := alloc_block (W.alloc (.cells (vA11 y.t) 40)) (.cells #[.slice (some ⟨W.heap.size, 0, none⟩) 1 1, .slice p1 nk c1, .slice kp nv kc] 32)
      rw [World.size_alloc] at hKb
      have HKa := hid (row_lit hKa)
      have HKb := hid hKb
      clear hKa hKb
      go_wp2_with (first
        | (go_at_call 62; refine (concatV_any HKb.out HKa.out (HR4.out.on HBb.out) (HRw4.out.on HBb.out) (by have h1 := HNk.out; have h2 := HNv.out; have := HKs.out; have := HYv.out; simp; omega)).mono ?_; rintro e w5 ⟨v5, rfl, hr5, hb5⟩; have hv5 := hr5; obtain ⟨p5, c5, hve, -⟩ := hv5; obtain ⟨n5, hn5⟩ : ∃ m, List.length ([vT y.t] ++ s.ks ++ y.vs) = m := ⟨_, rfl⟩; rw [hn5] at hve; subst hve; clear hn5; have HR5 := hid hr5; have HB5 := hid (HBb.out.trans (hb5.mono HBb.out.size)); clear hr5 hb5)
        | (at_builtin; refine app_N (N := bsz 1) (B := w2.heap.size) elem35.N one_len (fun x hx c hc => by simp at hx; subst hx; simp [one] at hc; subst hc; rfl) rfl _ _ rfl rfl (own_kp (T := fun _ => False) HO4.out (Kp.of (HB5.out.alloc HB5.out.size _)) (fun _ _ => id)) rfl (one_lit (alloc_block _ _)) (bs24 (Nat.le_trans HLn'.out (by decide)) (by simp)) (by decide) (by have := HB4.out.size; have := HB5.out.size; simp; omega) ?_; intro v6 w6 hown6 hg6; have HO6 := hid hown6; have HG6 := hid hg6; clear hown6 hg6))
      have hbA : Below W.heap.size W (w5.alloc (.cells #[.slice p5 n5 c5] 32)) := HB5.out.alloc HB5.out.size _
      have hb5A : Below w5.heap.size w5 (w5.alloc (.cells #[.slice p5 n5 c5] 32)) := (Below.refl _ _).alloc (Nat.le_refl _) _
      have hO5 := own_kp (T := fun _ => False) HO4.out (Kp.of hbA) (fun _ _ => id)
      have hK6 : Kp (fun k => (Value.slice pr hs'.length cr).ownBlock = some k) (w5.alloc (.cells #[.slice p5 n5 c5] 32)) w6 := Kp.grown HG6.out (fun k e => e)
      refine ⟨⟨k + 1, _, by omega, by go_num, HO6.out, ?_, ?_⟩, by simp [intOf]; omega⟩
      · show HeadsP _ _ _ _
        rw [HT.out]
        refine HeadsP.snoc ((HH4.out.on hbA).kp hK6 (fun k hk => off32 hO5 hk)) ?_
        have h1 := row_P (P' := any) (row_kp (T := fun _ => False) HR5.out (Kp.of hb5A) (fun _ _ => id)) (fun _ _ _ => trivial)
        have h2 := row_kp h1 hK6 (fun k hk => off32 hO5 hk)
        exact h2
      · have hb := hK6.below (B := w2.heap.size) (by have := HB4.out.size; have := hbA.size; omega) (fun k hk => (own_at hO5 hk).1)
        exact (HB4.out.trans (hbA.mono HB4.out.size)).trans hb
    · have hks : k = n2 := by omega
      subst hks
      have hta : L.take k = L := List.take_of_length_le (by rw [HN2.out]; exact Nat.le_refl _)
      rw [hta] at HR
      go_wp2
      go_ret
      exact ⟨_, hs', rfl, own_le HO.out HB2.out.size, (by rw [HLq.out]; exact HR.out), HB2.out.trans (HB.out.mono HB2.out.size)⟩
end Go.Proofs.YtlbjbkhcnafhcaaGreat
