/-
  A leaf behind a Write that wrote: its parts put together.
-/
import Derived.Test.YtlbjbkhcnafhcaaGreatP28LFit
namespace Go.Proofs.YtlbjbkhcnafhcaaGreat
open Go.RowKit Go.Sort Go.Shelf Go.Maps

theorem Wr3.from {B : Nat} {P : Nat → Prop} {w w2 w' : World} {b : Nat} {S : List Sc} {room : Int} {x : Lx} {pts : List Pt} (ho : Ov w w2) (h : Wr3 B P w2 b S room x pts w') : Wr3 B P w b S room x pts w' := by
  obtain ⟨x', h1, h2, h3⟩ := h
  have ho' : Below w.heap.size w w2 := ho
  exact ⟨x', h1, (Kp.of ho').trans h2, fun k hk => (h3 k hk).imp id (fun h => Nat.le_trans ho'.size h)⟩
theorem rk_off72 {B : Nat} {P : Nat → Prop} {w : World} {r : Rm} {q : List Sp} (h : RN.Rk B P w r.b r.sv r.pv q) {k : Nat} {cs : Array Value} {t : TypeId} {fz : Nat × Nat} (hk : w.heap[k]? = some (.cells cs t fz)) (h1 : t ≠ 101) (h2 : t ≠ 102) (h3 : t ≠ 105) : ¬ r.T k := h.T_not hk h1 h2 h3
theorem rk_offm {B : Nat} {P : Nat → Prop} {w : World} {r : Rm} {q : List Sp} (h : RN.Rk B P w r.b r.sv r.pv q) {k : Nat} {es : Array MapEntry} {c : Nat} (hk : w.heap[k]? = some (.map es c)) : ¬ r.T k := fun hT => by
  obtain ⟨cs, t, fz, hc, _⟩ := h.T_kind k hT
  rw [hk] at hc; cases hc
/- The dictionary while a run grows. -/
theorem dk_run {fx : SN.Fx} {B B' : Nat} {P : Nat → Prop} {w w' : World} {b : Nat} {most : Int} {sv : Value} {m : Nat} {l : List Sm} {r : Rm} {q : List Sp} (h : SN.Dk fx B P w b most sv m l) (hr : RN.Rk B' P w r.b r.sv r.pv q) (hk : Kp r.T w w') : SN.Dk fx B P w' b most sv m l := by
  obtain ⟨hs, ho, hh⟩ := h.row
  obtain ⟨D, hD, ha⟩ := h.map
  obtain ⟨es, c, hb⟩ := SN.map_blk hD
  exact h.kp hk (rk_off72 hr h.blk (by decide) (by decide) (by decide)) (fun g hg => by
    obtain ⟨c, f, hc⟩ := own_kind ho hg
    exact rk_off72 hr hc (by decide) (by decide) (by decide)) (rk_offm hr hb) (fun k hk => hr.ty_not hk)
theorem Kp.imp {T T' : Nat → Prop} {w w' : World} (h : Kp T w w') (ht : ∀ k, T k → T' k) : Kp T' w w' := ⟨h.os, h.tape, h.output, h.size, fun k h1 h2 => h.block k h1 (fun e => h2 (ht k e))⟩
/- All of it behind the count's store. -/
theorem lk_count {B : Nat} {P : Nat → Prop} {w : World} {b : Nat} {S : List Sc} {room : Int} {x : Lx} {l : List Sm} {R : List (List Sp)} {n : Nat} (h : Lk B P w b S room x l R n) : Lk B P (w.setCell ⟨b, 2, none⟩ (.int .i64 ((n + 1 : Nat) : Int))) b S room x l R (n + 1) := by
  have hk : Kp (fun k => k = b) w (w.setCell ⟨b, 2, none⟩ (.int .i64 ((n + 1 : Nat) : Int))) := Kp.set (T := fun k => k = b) rfl _
  obtain ⟨D, hD, ha⟩ := h.map
  obtain ⟨es, c, hb⟩ := pmap_blk hD
  refine ⟨dk_pt h.dk _, h.sch.kp hk (fun k ⟨c, t, fz, hc, e⟩ e2 => by have e2' : k = b := e2; rw [e2', h.dk.blk] at hc; cases hc; rcases e with e | e <;> cases e), h.smB, h.ne, ⟨D, pmap_kp hD hk (fun e => ?_), ha⟩, h.rl.kp hk (fun r hr k hkk e => ?_) (fun k hkk e => ?_), h.len⟩
  · have e' : x.sm = b := e
    rw [e', h.dk.blk] at hb; cases hb
  · obtain ⟨j, q, _, _, hq⟩ := h.rl.get hr
    have e' : k = b := e
    exact rk_off72 hq h.dk.blk (by decide) (by decide) (by decide) (by rw [← e']; exact hkk)
  · obtain ⟨-, c, fz, hc⟩ := hkk
    have e' : k = b := e
    rw [e', h.dk.blk] at hc; cases hc
theorem map_set_b {rs : List Rm} {j : Nat} {r r' : Rm} (hr : rs[j]? = some r) (hb : r'.b = r.b) : (rs.set j r').map Rm.b = rs.map Rm.b := by
  apply List.ext_getElem?
  intro i
  rw [List.getElem?_map, List.getElem?_map, List.getElem?_set]
  by_cases e : j = i
  · subst e
    rw [if_pos rfl, if_pos (List.getElem?_eq_some_iff.1 hr).1, hr]
    simp [hb]
  · rw [if_neg e]
theorem fin_old {B : Nat} {P : Nat → Prop} {w2 w3 w4 : World} {b : Nat} {S : List Sc} {room : Int} {x : Lx} {l : List Sm} {R : List (List Sp)} {pts : List Pt} {p : Pt} {j : Nat} {r : Rm} {q : List Sp} {sv' sv4 pv4 : Value}
    (h : Lk B P w2 b S room x l R pts.length) (hi : Iv pts l R) (hj : l[j]? = some (kyP p)) (hr : x.rs[j]? = some r) (hq : R[j]? = some q) (hno : RN.hasT q p.tm = false)
    (hd : SN.Dk (fxL room pts.length x) B P w3 b room sv' x.m l) (hat : RN.At w2 x.sv sv') (hk : Kp (SN.Tc b x.sv x.m) w2 w3)
    (hn : RN.Rk B P w4 r.b sv4 pv4 (RN.addS q (spP p))) (hk4 : Kp (RN.Tr r.b r.sv r.pv) w3 w4) (ht : ∀ k, RN.Tr r.b sv4 pv4 k → RN.Tr r.b r.sv r.pv k ∨ w3.heap.size ≤ k) :
    Wr3 B P w2 b S room x (pts ++ [p]) (w4.setCell ⟨b, 2, none⟩ (.int .i64 ((pts.length + 1 : Nat) : Int))) := by
  obtain ⟨sch3, ⟨D, hD, ha⟩, rl3⟩ := lk_dict h hk
  have rk3 := rl3.run j r q hr hq
  have hk4' : Kp r.T w3 w4 := hk4
  obtain ⟨es, c, hb⟩ := pmap_blk hD
  have hm : r ∈ x.rs := List.mem_of_getElem? hr
  have hL : Lk B P w4 b S room ⟨x.sc, sv', x.m, x.sm, x.rs.set j ⟨r.b, sv4, pv4⟩⟩ l (R.set j (RN.addS q (spP p))) pts.length :=
    ⟨dk_run hd rk3 hk4', sch3.kp hk4' (fun k ⟨c, t, fz, hc, e⟩ => rk_off72 rk3 hc (by rcases e with e | e <;> rw [e] <;> decide) (by rcases e with e | e <;> rw [e] <;> decide) (by rcases e with e | e <;> rw [e] <;> decide)), h.smB, h.ne, ⟨D, pmap_kp hD hk4' (rk_offm rk3 hb), by show AgR D ((x.rs.set j ⟨r.b, sv4, pv4⟩).map Rm.b); rw [map_set_b (r' := ⟨r.b, sv4, pv4⟩) hr rfl]; exact ha⟩, rl_put rl3 hr hq hk4' hn ht, by simp [h.len]⟩
  have hsz : w2.heap.size ≤ w3.heap.size := hk.size
  refine ⟨⟨x.sc, sv', x.m, x.sm, x.rs.set j ⟨r.b, sv4, pv4⟩⟩, ⟨l, _, ?_, hi.put hj hq hno⟩, ?_, fun k hk => ?_⟩
  · have := lk_count hL
    rw [List.length_append]
    exact this
  · exact (((hk.imp (T' := Tl b x) (fun k h => .inl h)).trans (hk4'.imp (T' := Tl b x) (fun k h => .inr (.inr ⟨r, hm, h⟩)))).trans (Kp.set (.inl (.inl rfl)) _))
  · rcases hk with (e | e | e) | e | ⟨s, hs, e⟩
    · exact .inl (.inl (.inl e))
    · rcases hat k e with h0 | h0
      · exact .inl (.inl (.inr (.inl h0)))
      · exact .inr h0
    · exact .inl (.inl (.inr (.inr e)))
    · exact .inl (.inr (.inl e))
    · rcases List.mem_or_eq_of_mem_set hs with hs | hs
      · exact .inl (.inr (.inr ⟨s, hs, e⟩))
      · subst hs
        rcases ht k e with h0 | h0
        · exact .inl (.inr (.inr ⟨r, hm, h0⟩))
        · exact .inr (by omega)
theorem fin_new {B : Nat} {P : Nat → Prop} {w2 w3 w4 w5 w6 : World} {b rb : Nat} {S : List Sc} {room : Int} {x : Lx} {l : List Sm} {R : List (List Sp)} {pts : List Pt} {p : Pt} {sv' sv6 pv6 : Value} {D5 : D1}
    (h : Lk B P w2 b S room x l R pts.length) (hi : Iv pts l R) (hm : kyP p ∉ l)
    (hd : SN.Dk (fxL room pts.length x) B P w3 b room sv' x.m (l ++ [kyP p])) (hat : RN.At w2 x.sv sv') (hk : Kp (SN.Tc b x.sv x.m) w2 w3)
    (hb4 : Below w3.heap.size w3 w4) (hn4 : RN.Rk w3.heap.size P w4 rb (.slice none 0 0) (.slice none 0 0) [])
    (hD5 : w5.ownsMap Tryz.prog 3 pElem x.sm (l.length + 1) D5) (ha5 : AgR D5 (x.rs.map Rm.b ++ [rb])) (hg5 : w4.grownBy w5 (some x.sm))
    (hn6 : RN.Rk B P w6 rb sv6 pv6 (RN.addS [] (spP p))) (hk6 : Kp (RN.Tr rb (.slice none 0 0) (.slice none 0 0)) w5 w6) (ht : ∀ k, RN.Tr rb sv6 pv6 k → RN.Tr rb (.slice none 0 0) (.slice none 0 0) k ∨ w5.heap.size ≤ k) :
    Wr3 B P w2 b S room x (pts ++ [p]) (w6.setCell ⟨b, 2, none⟩ (.int .i64 ((pts.length + 1 : Nat) : Int))) := by
  obtain ⟨sch3, ⟨D, hD, ha⟩, rl3⟩ := lk_dict h hk
  have hk5 : Kp (fun k => k = x.sm) w4 w5 := Kp.grown hg5 (fun k e => by cases e; rfl)
  have hsz2 : w2.heap.size ≤ w3.heap.size := hk.size
  have hsz3 := hb4.size
  have hsz4 := hk5.size
  -- at w4
  have d4 := hd.on hb4
  have rl4 : Rl B P w4 x.rs R := rl3.kp (T := fun _ => False) (Kp.of hb4) (fun _ _ _ _ => id) (fun _ _ => id)
  have D4 := pmap_kp (T := fun _ => False) hD (Kp.of hb4) id
  obtain ⟨es, c, hb⟩ := pmap_blk D4
  have offm : ∀ {k : Nat} {cs : Array Value} {t : TypeId} {fz : Nat × Nat}, w4.heap[k]? = some (.cells cs t fz) → ¬ k = x.sm := fun hc e => by rw [e, hb] at hc; cases hc
  -- at w5
  have d5 : SN.Dk (fxL room pts.length x) B P w5 b room sv' x.m (l ++ [kyP p]) := by
    obtain ⟨hs, ho, hh⟩ := d4.row
    refine d4.kp hk5 (offm d4.blk) (fun g hg => ?_) (fun e => h.ne e.symm) (fun k hk => ?_)
    · obtain ⟨c, f, hc⟩ := own_kind ho hg
      exact offm hc
    · obtain ⟨-, c, fz, hc⟩ := hk
      exact offm hc
  have rl5 : Rl B P w5 x.rs R := rl4.kp hk5 (fun r hr k hk => by
    obtain ⟨j, q, _, _, hq⟩ := rl4.get hr
    obtain ⟨cs, t, fz, hc, _⟩ := hq.T_kind k hk
    exact offm hc) (fun k hk => by obtain ⟨-, c, fz, hc⟩ := hk; exact offm hc)
  have n5 : RN.Rk w3.heap.size P w5 rb (.slice none 0 0) (.slice none 0 0) [] := hn4.kp hk5 (fun k hk => by
    obtain ⟨cs, t, fz, hc, _⟩ := hn4.T_kind k hk
    exact offm hc) (fun k hk => by obtain ⟨-, c, fz, hc⟩ := hk; exact offm hc)
  have hge5 : ∀ k, RN.Tr rb (.slice none 0 0) (.slice none 0 0) k → w3.heap.size ≤ k := n5.T_ge
  -- at w6
  have hk6' : Kp (Rm.T ⟨rb, .slice none 0 0, .slice none 0 0⟩) w5 w6 := hk6
  have d6 : SN.Dk (fxL room pts.length x) B P w6 b room sv' x.m (l ++ [kyP p]) := dk_run (r := ⟨rb, .slice none 0 0, .slice none 0 0⟩) d5 n5 hk6'
  have hlt3 : ∀ r ∈ x.rs, ∀ k, r.T k → k < w3.heap.size := fun r hr k hk => by
    obtain ⟨j, q, _, _, hq⟩ := rl3.get hr
    exact hq.T_lt k hk
  have rl6 : Rl B P w6 x.rs R := rl5.kp hk6' (fun r hr k hk h1 => by have := hge5 k h1; have := hlt3 r hr k hk; omega) (fun k hk => n5.ty_not hk)
  obtain ⟨es5, c5, hb5⟩ := pmap_blk hD5
  have hL : Lk B P w6 b S room ⟨x.sc, sv', x.m, x.sm, x.rs ++ [⟨rb, sv6, pv6⟩]⟩ (l ++ [kyP p]) (R ++ [[spP p]]) pts.length := by
    refine ⟨d6, ((sch3.on hb4).kp hk5 (fun k ⟨c, t, fz, hc, e⟩ => offm hc)).kp hk6' (fun k ⟨c, t, fz, hc, e⟩ => rk_off72 (r := ⟨rb, .slice none 0 0, .slice none 0 0⟩) n5 hc (by rcases e with e | e <;> rw [e] <;> decide) (by rcases e with e | e <;> rw [e] <;> decide) (by rcases e with e | e <;> rw [e] <;> decide)), h.smB, h.ne, ⟨D5, by rw [List.length_append]; exact pmap_kp hD5 hk6' (rk_offm (r := ⟨rb, .slice none 0 0, .slice none 0 0⟩) n5 hb5), by rw [List.map_append]; exact ha5⟩, ?_, by simp [h.len]⟩
    refine rl_add rl6 hn6 (fun s hs k hk1 hk2 => ?_)
    have := hlt3 s hs k hk1
    rcases ht k hk2 with h1 | h1
    · have := hge5 k h1; omega
    · omega
  refine ⟨⟨x.sc, sv', x.m, x.sm, x.rs ++ [⟨rb, sv6, pv6⟩]⟩, ⟨_, _, ?_, hi.add hm⟩, ?_, fun k hk => ?_⟩
  · have := lk_count hL
    rw [List.length_append]
    exact this
  · refine Kp.trans ?_ (Kp.set (.inl (.inl rfl)) _)
    have k23 := hk.imp (T' := Tl b x) (fun k h => .inl h)
    have k24 : Kp (Tl b x) w2 w4 := k23.trans (Kp.of hb4)
    have k25 : Kp (Tl b x) w2 w5 := k24.trans (hk5.imp (T' := Tl b x) (fun k h => .inr (.inl h)))
    exact k25.trans' hk6' (fun k h1 h2 => by have := hge5 k h2; omega)
  · rcases hk with (e | e | e) | e | ⟨s, hs, e⟩
    · exact .inl (.inl (.inl e))
    · rcases hat k e with h0 | h0
      · exact .inl (.inl (.inr (.inl h0)))
      · exact .inr h0
    · exact .inl (.inl (.inr (.inr e)))
    · exact .inl (.inr (.inl e))
    · rcases List.mem_append.1 hs with hs | hs
      · exact .inl (.inr (.inr ⟨s, hs, e⟩))
      · simp at hs
        subst hs
        rcases ht k e with h0 | h0
        · have := hge5 k h0; exact .inr (by omega)
        · exact .inr (by omega)
end Go.Proofs.YtlbjbkhcnafhcaaGreat
