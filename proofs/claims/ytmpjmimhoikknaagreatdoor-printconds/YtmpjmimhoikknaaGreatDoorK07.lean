/-
  What inBrackets, not and the steps of a query do.
  What keep, align, group and top do.
-/
import Derived.Test.YtmpjmimhoikknaaGreatDoorK06
namespace Go.Proofs.YtmpjmimhoikknaaGreatDoor
open Go.RowKit Go.Joins

section
variable {B : Nat} {ts : List Tp} {w : World} {rb : Nat} {tv sv : Value} {o i : Nat} {qs : List Nd}
theorem mkf : ∀ (fn : Fn) (first cap : Array Value) (w : World), (Instr.makeFunc fn first cap).run Tryz.prog w = .ok (.func fn first cap) w := fun _ _ _ _ => rfl
/- What may stand within a bracket, if one more may be open. -/
def Deep (F : Nat) (B : Nat) (ts : List Tp) (rb : Nat) (tv : Value) (o : Nat) : Option PN → Prop
  | none => o = 16
  | some p => o < 16 ∧ PNc F B ts rb tv (o + 1) p
theorem Deep.none {F : Nat} {d : Option PN} (h : Deep F B ts rb tv o d) (ho : o = 16) : d = .none := by
  cases d with
  | none => rfl
  | some p => have := h.1; omega
theorem Deep.some {F : Nat} {d : Option PN} (h : Deep F B ts rb tv o d) (ho : o < 16) : ∃ p, d = .some p ∧ PNc F B ts rb tv (o + 1) p := by
  cases d with
  | none => have h : o = 16 := h; omega
  | some p => exact ⟨p, rfl, h.2⟩
theorem bad_if {α : Type} {r : Rs α} {j : Nat} {c : Int} (h : r = .bad j c) : r = .bad j c := h
set_option maxRecDepth 100000 in
set_option maxHeartbeats 2000000 in
theorem inBr_cond {d : Option PN} (hd : Deep 210 B ts rb tv o d) (h : Rq B ts w rb tv sv o i qs) : Calls Tryz.prog 214 #[dp rb, .func (.func 210) #[dp rb] #[]] w (P2 B ts rb tv sv o w vNat (inBr ts d i (qs.map (·.np)))) := by
  have HD := hid hd
  have HE := hid (enter_any h wOpen)
  clear hd h
  go_enter Tryz.func214, Tryz.ntmps214
  go_wp2_with (first
    | (go_at_call 229; refine HE.out.mono ?_; rintro e w1 ⟨hk, ⟨hw, rfl, hq⟩ | ⟨hw, ho, rfl⟩ | ⟨hw, ho, rfl, hq⟩⟩; (focus (have HQ := hid hq; have HK := hid hk; have HX := hid hw; clear hq hk hw; go_wp2_with (go_at_call 145; refine (fail_any HQ.out 120).mono ?_; rintro e w2 ⟨rfl, he⟩; replace he := he.symm; subst he); exact ⟨rfl, P2.bad HK.out.r (by simp [inBr, HX.out])⟩)); (focus (have HX := hid hw; have HK := hid hk; have HDn := hid (HD.out.none ho); clear hw hk ho; go_wp2_with fail; exact ⟨rfl, P2.bad HK.out.r (by simp [inBr, HX.out, HDn.out])⟩)); obtain ⟨p, hdp, hp⟩ := HD.out.some ho; have HX := hid hw; have HK1 := hid hk; have HQ1 := hid hq; have HDs := hid hdp; have HP := hid hp; clear hw hk hq ho hdp hp)
    | (go_at_call 210; refine (HP.out _ _ _ _ HQ1.out).mono ?_; rintro e w2 ⟨hk, ⟨j, c, hr, rfl⟩ | ⟨r, j, v, sv2, qs2, hr, rfl, rfl, hq, hm, ha⟩⟩; (focus (go_wp2_with fail; exact ⟨rfl, P2.bad (HK1.out.r.trans hk) (by simp [inBr, HX.out, HDs.out, hr, Rs.and])⟩)); have HK2 := hid (HK1.out.r.trans hk); have HQ2 := hid hq; have HR2 := hid hr; have HM2 := hid hm; have HA2 := hid (At.trans (At.refl w sv) ha HK1.out.size); clear hk hq hr hm ha)
    | (go_at_call 146; refine (want_any HQ2.out wShut).mono ?_; rintro e w3 ⟨hk, ⟨j2, c, hr, rfl⟩ | ⟨_, j2, v, hr, rfl, rfl, hq⟩⟩; (focus (go_wp2_with fail; exact ⟨rfl, P2.bad (HK2.out.next HA2.out hk.r) (by simp [inBr, HX.out, HDs.out, HR2.out, hr, Rs.and])⟩)); have HK3 := hid (HK2.out.next HA2.out hk.r); have HQ3 := hid hq; have HR3 := hid hr; clear hk hq hr)
    | (go_at_call 230; refine (leave_any HQ3.out).mono ?_; rintro e w4 ⟨rfl, hq, hk⟩; have HK4 := hid (HK3.out.next HA2.out hk.r); have HQ4 := hid hq; clear hq hk))
  go_ret
  exact ⟨HK4.out, .inr ⟨r, j2, _, sv2, qs2, by simp [inBr, HX.out, HDs.out, HR2.out, HR3.out, Rs.and], rfl, rfl, HQ4.out, HM2.out, HA2.out⟩⟩
set_option maxRecDepth 100000 in
set_option maxHeartbeats 2000000 in
theorem inBr_query {d : Option PN} (hd : Deep 68 B ts rb tv o d) (h : Rq B ts w rb tv sv o i qs) : Calls Tryz.prog 214 #[dp rb, .func (.func 68) #[dp rb] #[]] w (P2 B ts rb tv sv o w vNat (inBr ts d i (qs.map (·.np)))) := by
  have HD := hid hd
  have HE := hid (enter_any h wOpen)
  clear hd h
  go_enter Tryz.func214, Tryz.ntmps214
  go_wp2_with (first
    | (go_at_call 229; refine HE.out.mono ?_; rintro e w1 ⟨hk, ⟨hw, rfl, hq⟩ | ⟨hw, ho, rfl⟩ | ⟨hw, ho, rfl, hq⟩⟩; (focus (have HQ := hid hq; have HK := hid hk; have HX := hid hw; clear hq hk hw; go_wp2_with (go_at_call 145; refine (fail_any HQ.out 120).mono ?_; rintro e w2 ⟨rfl, he⟩; replace he := he.symm; subst he); exact ⟨rfl, P2.bad HK.out.r (by simp [inBr, HX.out])⟩)); (focus (have HX := hid hw; have HK := hid hk; have HDn := hid (HD.out.none ho); clear hw hk ho; go_wp2_with fail; exact ⟨rfl, P2.bad HK.out.r (by simp [inBr, HX.out, HDn.out])⟩)); obtain ⟨p, hdp, hp⟩ := HD.out.some ho; have HX := hid hw; have HK1 := hid hk; have HQ1 := hid hq; have HDs := hid hdp; have HP := hid hp; clear hw hk hq ho hdp hp)
    | (go_at_call 68; refine (HP.out _ _ _ _ HQ1.out).mono ?_; rintro e w2 ⟨hk, ⟨j, c, hr, rfl⟩ | ⟨r, j, v, sv2, qs2, hr, rfl, rfl, hq, hm, ha⟩⟩; (focus (go_wp2_with fail; exact ⟨rfl, P2.bad (HK1.out.r.trans hk) (by simp [inBr, HX.out, HDs.out, hr, Rs.and])⟩)); have HK2 := hid (HK1.out.r.trans hk); have HQ2 := hid hq; have HR2 := hid hr; have HM2 := hid hm; have HA2 := hid (At.trans (At.refl w sv) ha HK1.out.size); clear hk hq hr hm ha)
    | (go_at_call 146; refine (want_any HQ2.out wShut).mono ?_; rintro e w3 ⟨hk, ⟨j2, c, hr, rfl⟩ | ⟨_, j2, v, hr, rfl, rfl, hq⟩⟩; (focus (go_wp2_with fail; exact ⟨rfl, P2.bad (HK2.out.next HA2.out hk.r) (by simp [inBr, HX.out, HDs.out, HR2.out, hr, Rs.and])⟩)); have HK3 := hid (HK2.out.next HA2.out hk.r); have HQ3 := hid hq; have HR3 := hid hr; clear hk hq hr)
    | (go_at_call 230; refine (leave_any HQ3.out).mono ?_; rintro e w4 ⟨rfl, hq, hk⟩; have HK4 := hid (HK3.out.next HA2.out hk.r); have HQ4 := hid hq; clear hq hk))
  go_ret
  exact ⟨HK4.out, .inr ⟨r, j2, _, sv2, qs2, by simp [inBr, HX.out, HDs.out, HR2.out, HR3.out, Rs.and], rfl, rfl, HQ4.out, HM2.out, HA2.out⟩⟩
/- One thing more may be open: a not's. -/
def Deep2 (B : Nat) (ts : List Tp) (rb : Nat) (tv : Value) (o : Nat) : Option PN → Prop
  | none => o = 16
  | some p => o < 16 ∧ PNc 244 B ts rb tv (o + 1) p ∧ GoN ts p
theorem Deep2.cond {d : Option PN} (h : Deep2 B ts rb tv o d) : Deep 210 B ts rb tv o (d.map (condB ts)) := by
  cases d with
  | none => exact h
  | some p => exact ⟨h.1, cond_of h.2.1 h.2.2⟩
theorem Deep2.nt {d : Option PN} (h : Deep2 B ts rb tv o d) : Deep 244 B ts rb tv o d := by
  cases d with
  | none => exact h
  | some p => exact ⟨h.1, h.2.1⟩
theorem Deep2.go {d : Option PN} (h : Deep2 B ts rb tv o d) : ∀ p, d = .some p → GoN ts p := by
  intro p hp; subst hp; exact h.2.2
set_option maxRecDepth 100000 in
set_option maxHeartbeats 2000000 in
theorem not_of {d : Option PN} (hd : Deep2 B ts rb tv o d) : PNc 244 B ts rb tv o (notB ts d) := by
  intro w sv i qs h
  have HD := hid hd
  have HE := hid (enter_any h wNot)
  have HQL := hid h.ql
  have hmf := mkf
  clear hd h
  go_enter Tryz.func244, Tryz.ntmps244
  go_wp2_with (first
    | (go_at_call 229; refine HE.out.mono ?_; rintro e w1 ⟨hk, ⟨hw, rfl, hq⟩ | ⟨hw, ho, rfl⟩ | ⟨hw, ho, rfl, hq⟩⟩; rotate_left; (focus (have HX := hid hw; have HK := hid hk; have HDn := hid (HD.out.nt.none ho); clear hw hk ho; go_wp2_with fail; exact ⟨rfl, P2.bad HK.out.r (by simp [notB, HX.out, HDn.out])⟩)); (focus (obtain ⟨p, hdp, hp⟩ := HD.out.nt.some ho; have HX := hid hw; have HK1 := hid hk; have HQ1 := hid hq; have HDs := hid hdp; have HP := hid hp; have HGo := hid (HD.out.go p hdp); clear hw hk hq ho hdp hp; go_wp2_with (first
            | (go_at_call 244; refine (HP.out _ _ _ _ HQ1.out).mono ?_; rintro e w2 ⟨hk, ⟨j, c, hr, rfl⟩ | ⟨r, j, v, sv2, qs2, hr, rfl, rfl, hq, hm, ha⟩⟩; (focus (go_wp2_with fail; exact ⟨rfl, P2.bad (HK1.out.r.trans hk) (by simp [notB, HX.out, HDs.out, hr, Rs.and])⟩)); have HK2 := hid (HK1.out.r.trans hk); have HQ2 := hid hq; have HR2 := hid hr; have HM2 := hid hm; have HA2 := hid (At.trans (At.refl w sv) ha HK1.out.size); have HLl : Hid (qs2.length + 1 ≤ j) := (by show _ ≤ _; have g := HGo.out _ _ _ _ hr; have e := congrArg List.length hm; simp at e g; have := HQL.out; omega); clear hk hq hr hm ha)
            | (go_at_call 230; refine (leave_any HQ2.out).mono ?_; rintro e w4 ⟨rfl, hq, hk⟩; have HK4 := hid (HK2.out.next HA2.out hk.r); have HQ4 := hid hq; clear hq hk)
            | (go_at_call 108; refine (lay_any (q := nam1 w4 { n0 with kind := 13, l := [(r.1 : Int)] }) (HQ4.out.on ((Below.refl _ _).alloc (Nat.le_refl _) _)) (nam1_in HQ4.out.B_le rfl rfl rfl) HLl.out).mono ?_; rintro e w5 ⟨rfl, sv5, hq, ha, hk⟩; have HQ5 := hid hq; have HK5 := hid (HK4.out.next HA2.out ((Kp.alloc _ _ _).trans hk)); have HA5 := hid (HA2.out.trans ha (Nat.le_trans HK4.out.size (by simp))); clear hq ha hk)); go_ret; have eL := congrArg List.length HM2.out; simp only [List.length_map] at eL; exact ⟨HK5.out, .inr ⟨(qs2.length, r.2 ++ [{ n0 with kind := 13, l := [(r.1 : Int)] }]), j, _, sv5, _, by simp [notB, HX.out, HDs.out, HR2.out, Rs.and, eL], rfl, rfl, HQ5.out, map_snoc HM2.out, HA5.out⟩⟩)); have HX := hid hw; have HK1 := hid hk; have HQ1 := hid hq; clear hw hk hq)
    | (go_at_call 149; refine (stands_any HQ1.out wOpen).mono ?_; rintro e w2 ⟨rfl, hb⟩; have HQ2 := hid (HQ1.out.on hb); have HK2 := hid (HK1.out.trans (Kp.of hb)); clear hb;  cases hw : isW ts i wOpen with
        | true =>
          have HY := hid hw
          clear hw
          go_wp2_with (go_at_call 214; refine (inBr_cond HD.out.cond HQ2.out).mono ?_; rintro e w3 ⟨hk, ⟨j, c, hr, rfl⟩ | ⟨r, j, v, sv3, qs3, hr, rfl, rfl, hq, hm, ha⟩⟩; (focus (go_wp2_with fail; exact ⟨rfl, P2.bad (HK2.out.r.trans hk) (by simp [notB, HX.out, HY.out, hr])⟩)); have HK3 := hid (HK2.out.r.trans hk); have HQ3 := hid hq; have HR3 := hid hr; have HM3 := hid hm; have HA3 := hid (At.trans (At.refl w sv) ha HK2.out.size); clear hk hq hr hm ha)
          go_ret
          exact ⟨HK3.out, .inr ⟨r, j, _, sv3, qs3, by simp [notB, HX.out, HY.out, HR3.out], rfl, rfl, HQ3.out, HM3.out, HA3.out⟩⟩
        | false =>
          have HY := hid hw
          clear hw
          go_wp2_with (first
            | (go_at_call 251; refine (test_any HQ2.out).mono ?_; rintro e w3 ⟨hk, ⟨j, c, hr, rfl⟩ | ⟨x, j, v, hr, rfl, ⟨q, hqx, rfl, hqn⟩, hq⟩⟩; (focus (go_wp2_with fail; exact ⟨rfl, P2.bad (HK2.out.r.trans hk.r) (by simp [notB, HX.out, HY.out, hr, Rs.and])⟩)); have HK3 := hid (HK2.out.trans hk); have HQ3 := hid hq; have HR3 := hid hr; have HN3 := hid hqn; have HE3 := hid hqx; have HLl : Hid (qs.length + 1 ≤ j) := (by show _ ≤ _; have g := test_go ts _ _ _ hr; have := HQL.out; omega); clear hk hq hr hqn hqx)
            | (go_at_call 108; refine (lay_any HQ3.out HN3.out HLl.out).mono ?_; rintro e w5 ⟨rfl, sv5, hq, ha, hk⟩; have HQ5 := hid hq; have HK5 := hid (HK3.out.r.trans hk); have HA5 := hid (At.trans (At.refl w sv) ha HK3.out.size); clear hq ha hk))
          go_ret
          exact ⟨HK5.out, .inr ⟨(qs.length, qs.map (·.np) ++ [x]), j, _, sv5, _, by simp [notB, HX.out, HY.out, HR3.out, Rs.and], rfl, rfl, HQ5.out, by rw [map_snoc rfl, HE3.out], HA5.out⟩⟩))
theorem not_all (B : Nat) (ts : List Tp) (rb : Nat) (tv : Value) : ∀ (d o : Nat), o + d = 16 → PNc 244 B ts rb tv o (notS ts d)
  | 0, o, h => not_of (d := none) (show o = 16 by omega)
  | d + 1, o, h => not_of (d := some (notS ts d)) ⟨by omega, not_all B ts rb tv d (o + 1) (by omega), not_go ts d⟩
theorem cond_all (B : Nat) (ts : List Tp) (rb : Nat) (tv : Value) (d o : Nat) (h : o + d = 16) : PNc 210 B ts rb tv o (condS ts d) := cond_of (not_all B ts rb tv d o h) (not_go ts d)
/- What a step reads: its node, and the nodes ahead of it. -/
def PSc (F : Nat) (B : Nat) (ts : List Tp) (rb : Nat) (tv : Value) (o : Nat) (f : Nat → Nat → List Np → Rs (Np × List Np)) : Prop :=
  ∀ (w : World) (sv : Value) (i : Nat) (qs : List Nd) (rows : Nat), Rq B ts w rb tv sv o i qs → Calls Tryz.prog F #[dp rb, .int .i64 (rows : Int)] w (P2 B ts rb tv sv o w (vNd B) (f rows i (qs.map (·.np))))
/- Its node is laid into the result. -/
theorem box_end {w1 w2 w3 : World} {sv' : Value} {j g : Nat} {qs' : List Nd} {cs : Array Value} {q : Nd} (h0 : Rq B ts w rb tv sv o i qs) (hk : Kp (Tq rb sv) w w2) (h2 : Rq B ts w2 rb tv sv' o j qs') (ha : At w1 sv sv') (hs : g < w1.heap.size) (hgw : w.heap.size ≤ g) (hg : w2.heap[g]? = some (.cells cs 44 (0, 0))) (k3 : Kp (fun k => k = g) w2 w3) (hq : NdIn B w2 q) :
    Kp (Tq rb sv) w w3 ∧ Rq B ts w3 rb tv sv' o j qs' ∧ NdIn B w3 q ∧ At w sv sv' := by
  have hT : TK w2 (fun k => k = g) := fun k e c t fz hc => by subst e; rw [hg] at hc; cases hc; decide
  refine ⟨hk.trans' k3 (fun k hk e => by omega), h2.kp k3 ?_ hT (fun k e => by have := h0.B_le; omega), hq.kp k3 hT, fun k e => ?_⟩
  · rintro k (rfl | hk') e
    · have := h0.lt; omega
    · rcases ha k hk' with hh | hh
      · have := (h0.own.at hh).2; omega
      · omega
  · rcases ha k e with hh | hh
    · exact .inl hh
    · exact .inr (by omega)
abbrev whereS (c : PN) (rows i : Nat) (ns : List Np) : Rs (Np × List Np) := (c i ns).and fun r j => .ok ({ n0 with kind := 2, l := [(rows : Int), (r.1 : Int)] }, r.2) j
abbrev keepS (ts : List Tp) (rows i : Nat) (ns : List Np) : Rs (Np × List Np) := (listS ts (nameS ts) i).and fun l j => .ok ({ laidN 3 rows with names := l }, ns) j
abbrev alignS (ts : List Tp) (rows i : Nat) (ns : List Np) : Rs (Np × List Np) := (numS' ts i).and fun n j => .ok ({ laidN 4 rows with n := n }, ns) j
abbrev groupS (ts : List Tp) (rows i : Nat) (ns : List Np) : Rs (Np × List Np) := if isW ts i wColon then (listS ts (aggS ts) (i + 1)).and fun l j => .ok ({ laidN 5 rows with aggs := l }, ns) j
        else (listS ts (nameS ts) i).and fun l j => (wantS ts wColon j).and fun _ j => (listS ts (aggS ts) j).and fun g j => .ok ({ laidN 5 rows with names := l, aggs := g }, ns) j
abbrev topS (ts : List Tp) (rows i : Nat) (ns : List Np) : Rs (Np × List Np) := (numS' ts i).and fun n j => (wantS ts wBy j).and fun _ j => (nameS ts j).and fun x j => .ok ({ laidN 6 rows with n := n, s := x }, ns) j
abbrev joinS (k : Int) (ts : List Tp) (d : Option PN) (rows i : Nat) (ns : List Np) : Rs (Np × List Np) := (inBr ts d i ns).and fun r j => .ok ({ n0 with kind := k, l := [(rows : Int), (r.1 : Int)] }, r.2) j
set_option maxRecDepth 100000 in
set_option maxHeartbeats 2000000 in
theorem where_of {c : PN} (hc : PNc 210 B ts rb tv o c) : PSc 181 B ts rb tv o (whereS c) := by
  intro w sv i qs rows h
  have HB0 : Hid (Below w.heap.size w (w.alloc (.cells zNd 44))) := (Below.refl _ _).alloc (Nat.le_refl _) _
  have HZ := hid (alloc_block w (.cells zNd 44))
  have HQ0 := hid (h.on HB0.out)
  have HR0 := hid h
  have hrl := h.lt
  have hmf := mkf
  have HSz : Hid (w.heap.size < (w.alloc (.cells zNd 44)).heap.size) := by show _ < _; simp
  generalize hW : w.alloc (.cells zNd 44) = w1 at *
  have HW := hid hW
  clear h hW
  have HC := hid (hc _ _ _ _ HQ0.out)
  go_enter Tryz.func181, Tryz.ntmps181
  go_upto_region 1 with fail
  rw [HW.out]
  go_wp2_with (first
    | (go_at_call 210; refine HC.out.mono ?_; rintro e w2 ⟨hk, ⟨j, c, hr, rfl⟩ | ⟨r, j, v, sv2, qs2, hr, rfl, rfl, hq, hm, ha⟩⟩; (focus (go_wp2_with fail; exact ⟨rfl, P2.bad ((Kp.of HB0.out).trans hk) (by simp only [whereS, hr, Rs.and])⟩)); have HK2 := hid ((Kp.of HB0.out).trans hk); have HQ2 := hid hq; have HR2 := hid hr; have HM2 := hid hm; have HA2 := hid ha; have HZ2 := hid (hk.blk HZ.out (fun e => by have := HQ0.out.T_lt _ e; have hh := HR0.out.T_lt _ e; omega)); clear hk hq hr hm ha)
    | (refine store_nd (q := nam2 w2 { n0 with kind := 2, l := [(rows : Int), (r.1 : Int)] }) rfl _ _ rfl rfl rfl (nam2_in (a := (rows : Int)) (b := (r.1 : Int)) HQ2.out.B_le rfl rfl rfl).all ((Kp.alloc (fun _ => False) w2 (.cells #[.int .i64 (rows : Int), .int .i64 (r.1 : Int)] 3)).blk HZ2.out id) rfl ?_; intro w4 h4 k4; have H4 := hid h4; have K4 := hid (box_end (q := nam2 w2 { n0 with kind := 2, l := [(rows : Int), (r.1 : Int)] }) HR0.out (HK2.out.trans (Kp.alloc _ w2 (.cells #[.int .i64 (rows : Int), .int .i64 (r.1 : Int)] 3))) (HQ2.out.on ((Below.refl _ _).alloc (Nat.le_refl _) _)) HA2.out HSz.out (Nat.le_refl _) ((Kp.alloc (fun _ => False) w2 (.cells #[.int .i64 (rows : Int), .int .i64 (r.1 : Int)] 3)).blk HZ2.out id) k4 (nam2_in HQ2.out.B_le rfl rfl rfl)); clear h4 k4))
  exact ret_nd rfl rfl H4.out rfl rfl ⟨K4.out.1, .inr ⟨({ n0 with kind := 2, l := [(rows : Int), (r.1 : Int)] }, r.2), j, _, sv2, qs2, by simp only [whereS, HR2.out, Rs.and], rfl, ⟨_, rfl, rfl, K4.out.2.2.1⟩, K4.out.2.1, HM2.out, K4.out.2.2.2⟩⟩
set_option maxRecDepth 100000 in
set_option maxHeartbeats 2000000 in
theorem join_of {d : Option PN} (hd : Deep 68 B ts rb tv o d) : PSc 186 B ts rb tv o (joinS 7 ts d) := by
  intro w sv i qs rows h
  have HB0 : Hid (Below w.heap.size w (w.alloc (.cells zNd 44))) := (Below.refl _ _).alloc (Nat.le_refl _) _
  have HZ := hid (alloc_block w (.cells zNd 44))
  have HQ0 := hid (h.on HB0.out)
  have HR0 := hid h
  have hrl := h.lt
  have hmf := mkf
  have HSz : Hid (w.heap.size < (w.alloc (.cells zNd 44)).heap.size) := by show _ < _; simp
  generalize hW : w.alloc (.cells zNd 44) = w1 at *
  have HW := hid hW
  clear h hW
  have HC := hid (inBr_query hd HQ0.out)
  go_enter Tryz.func186, Tryz.ntmps186
  go_upto_region 1 with fail
  rw [HW.out]
  go_wp2_with (first
    | (go_at_call 214; refine HC.out.mono ?_; rintro e w2 ⟨hk, ⟨j, c, hr, rfl⟩ | ⟨r, j, v, sv2, qs2, hr, rfl, rfl, hq, hm, ha⟩⟩; (focus (go_wp2_with fail; exact ⟨rfl, P2.bad ((Kp.of HB0.out).trans hk) (by simp only [joinS, hr, Rs.and])⟩)); have HK2 := hid ((Kp.of HB0.out).trans hk); have HQ2 := hid hq; have HR2 := hid hr; have HM2 := hid hm; have HA2 := hid ha; have HZ2 := hid (hk.blk HZ.out (fun e => by have := HQ0.out.T_lt _ e; have hh := HR0.out.T_lt _ e; omega)); clear hk hq hr hm ha)
    | (refine store_nd (q := nam2 w2 { n0 with kind := 7, l := [(rows : Int), (r.1 : Int)] }) rfl _ _ rfl rfl rfl (nam2_in (a := (rows : Int)) (b := (r.1 : Int)) HQ2.out.B_le rfl rfl rfl).all ((Kp.alloc (fun _ => False) w2 (.cells #[.int .i64 (rows : Int), .int .i64 (r.1 : Int)] 3)).blk HZ2.out id) rfl ?_; intro w4 h4 k4; have H4 := hid h4; have K4 := hid (box_end (q := nam2 w2 { n0 with kind := 7, l := [(rows : Int), (r.1 : Int)] }) HR0.out (HK2.out.trans (Kp.alloc _ w2 (.cells #[.int .i64 (rows : Int), .int .i64 (r.1 : Int)] 3))) (HQ2.out.on ((Below.refl _ _).alloc (Nat.le_refl _) _)) HA2.out HSz.out (Nat.le_refl _) ((Kp.alloc (fun _ => False) w2 (.cells #[.int .i64 (rows : Int), .int .i64 (r.1 : Int)] 3)).blk HZ2.out id) k4 (nam2_in HQ2.out.B_le rfl rfl rfl)); clear h4 k4))
  exact ret_nd rfl rfl H4.out rfl rfl ⟨K4.out.1, .inr ⟨({ n0 with kind := 7, l := [(rows : Int), (r.1 : Int)] }, r.2), j, _, sv2, qs2, by simp only [joinS, HR2.out, Rs.and], rfl, ⟨_, rfl, rfl, K4.out.2.2.1⟩, K4.out.2.1, HM2.out, K4.out.2.2.2⟩⟩
set_option maxRecDepth 100000 in
set_option maxHeartbeats 2000000 in
theorem union_of {d : Option PN} (hd : Deep 68 B ts rb tv o d) : PSc 187 B ts rb tv o (joinS 8 ts d) := by
  intro w sv i qs rows h
  have HB0 : Hid (Below w.heap.size w (w.alloc (.cells zNd 44))) := (Below.refl _ _).alloc (Nat.le_refl _) _
  have HZ := hid (alloc_block w (.cells zNd 44))
  have HQ0 := hid (h.on HB0.out)
  have HR0 := hid h
  have hrl := h.lt
  have hmf := mkf
  have HSz : Hid (w.heap.size < (w.alloc (.cells zNd 44)).heap.size) := by show _ < _; simp
  generalize hW : w.alloc (.cells zNd 44) = w1 at *
  have HW := hid hW
  clear h hW
  have HC := hid (inBr_query hd HQ0.out)
  go_enter Tryz.func187, Tryz.ntmps187
  go_upto_region 1 with fail
  rw [HW.out]
  go_wp2_with (first
    | (go_at_call 214; refine HC.out.mono ?_; rintro e w2 ⟨hk, ⟨j, c, hr, rfl⟩ | ⟨r, j, v, sv2, qs2, hr, rfl, rfl, hq, hm, ha⟩⟩; (focus (go_wp2_with fail; exact ⟨rfl, P2.bad ((Kp.of HB0.out).trans hk) (by simp only [joinS, hr, Rs.and])⟩)); have HK2 := hid ((Kp.of HB0.out).trans hk); have HQ2 := hid hq; have HR2 := hid hr; have HM2 := hid hm; have HA2 := hid ha; have HZ2 := hid (hk.blk HZ.out (fun e => by have := HQ0.out.T_lt _ e; have hh := HR0.out.T_lt _ e; omega)); clear hk hq hr hm ha)
    | (refine store_nd (q := nam2 w2 { n0 with kind := 8, l := [(rows : Int), (r.1 : Int)] }) rfl _ _ rfl rfl rfl (nam2_in (a := (rows : Int)) (b := (r.1 : Int)) HQ2.out.B_le rfl rfl rfl).all ((Kp.alloc (fun _ => False) w2 (.cells #[.int .i64 (rows : Int), .int .i64 (r.1 : Int)] 3)).blk HZ2.out id) rfl ?_; intro w4 h4 k4; have H4 := hid h4; have K4 := hid (box_end (q := nam2 w2 { n0 with kind := 8, l := [(rows : Int), (r.1 : Int)] }) HR0.out (HK2.out.trans (Kp.alloc _ w2 (.cells #[.int .i64 (rows : Int), .int .i64 (r.1 : Int)] 3))) (HQ2.out.on ((Below.refl _ _).alloc (Nat.le_refl _) _)) HA2.out HSz.out (Nat.le_refl _) ((Kp.alloc (fun _ => False) w2 (.cells #[.int .i64 (rows : Int), .int .i64 (r.1 : Int)] 3)).blk HZ2.out id) k4 (nam2_in HQ2.out.B_le rfl rfl rfl)); clear h4 k4))
  exact ret_nd rfl rfl H4.out rfl rfl ⟨K4.out.1, .inr ⟨({ n0 with kind := 8, l := [(rows : Int), (r.1 : Int)] }, r.2), j, _, sv2, qs2, by simp only [joinS, HR2.out, Rs.and], rfl, ⟨_, rfl, rfl, K4.out.2.2.1⟩, K4.out.2.1, HM2.out, K4.out.2.2.2⟩⟩
end
end Go.Proofs.YtmpjmimhoikknaaGreatDoor
namespace Go.Proofs.YtmpjmimhoikknaaGreatDoor
open Go.RowKit Go.Joins

section
variable {B : Nat} {ts : List Tp} {w : World} {rb : Nat} {tv sv : Value} {o i : Nat} {qs : List Nd}
theorem Own.nd {α : Type} {enc : α → List Value} {k e n g : Nat} {w' : World} {v : Value} {xs : List α} {cs : Array Value} {fz : Nat × Nat} (h : Own enc k e n w v xs) (hg : w.heap[g]? = some (.cells cs 44 fz)) (hk : Kp (fun k => k = g) w w') (he : e ≠ 44) : Own enc k e n w' v xs :=
  h.kpk hk (fun b hT c t fz hc => by subst hT; rw [hg] at hc; cases hc; exact fun e' => he e'.symm)
abbrev one3 (w : World) : Value := .slice (some ⟨w.heap.size, 0, none⟩) 1 1
theorem own_one {W : World} {B : Nat} (hB : B ≤ W.heap.size) (a : Int) : Own int1 1 3 B (W.alloc (.cells #[.int .i64 a] 3)) (one3 W) [a] := own_ints W [a] (by simp) hB
theorem nd_all {q : Nd} (h1 : q.lv.oneCell' = true) (h2 : q.nv.oneCell' = true) (h3 : q.gv.oneCell' = true) : q.cells.toArray.all (·.oneCell') = true := by
  apply all_oneCell_toArray
  intro v hv
  simp [Nd.cells] at hv
  rcases hv with rfl | rfl | rfl | rfl | rfl | rfl | rfl | rfl | rfl | rfl | rfl | rfl | rfl | rfl | rfl | rfl | rfl | rfl | rfl <;> first | rfl | assumption
theorem nd_set17 {W : World} {g : Nat} {n : Np} {lv nv gv : Value} (h : W.heap[g]? = some (.cells (⟨n, lv, nv, gv⟩ : Nd).cells.toArray 44 (0, 0))) (v : Value) (l : List (List UInt8)) : (W.setCell ⟨g, 17, none⟩ v).heap[g]? = some (.cells (⟨{ n with names := l }, lv, v, gv⟩ : Nd).cells.toArray 44 (0, 0)) := block_set h 17 v
theorem nd_set18 {W : World} {g : Nat} {n : Np} {lv nv gv : Value} (h : W.heap[g]? = some (.cells (⟨n, lv, nv, gv⟩ : Nd).cells.toArray 44 (0, 0))) (v : Value) (l : List (Int × List UInt8)) : (W.setCell ⟨g, 18, none⟩ v).heap[g]? = some (.cells (⟨{ n with aggs := l }, lv, nv, v⟩ : Nd).cells.toArray 44 (0, 0)) := block_set h 18 v
theorem nd_set1 {W : World} {g : Nat} {n : Np} {lv nv gv : Value} (h : W.heap[g]? = some (.cells (⟨n, lv, nv, gv⟩ : Nd).cells.toArray 44 (0, 0))) (s : List UInt8) : (W.setCell ⟨g, 1, none⟩ (.string (St s))).heap[g]? = some (.cells (⟨{ n with s := s }, lv, nv, gv⟩ : Nd).cells.toArray 44 (0, 0)) := block_set h 1 (.string (St s))
theorem nd_c17 {W : World} {g : Nat} {n : Np} {lv nv gv : Value} (h : W.heap[g]? = some (.cells (⟨n, lv, nv, gv⟩ : Nd).cells.toArray 44 (0, 0))) : W.cell? ⟨g, 17, none⟩ = some nv := block_cell h 17
theorem nd_c18 {W : World} {g : Nat} {n : Np} {lv nv gv : Value} (h : W.heap[g]? = some (.cells (⟨n, lv, nv, gv⟩ : Nd).cells.toArray 44 (0, 0))) : W.cell? ⟨g, 18, none⟩ = some gv := block_cell h 18
theorem nd_c1 {W : World} {g : Nat} {n : Np} {lv nv gv : Value} (h : W.heap[g]? = some (.cells (⟨n, lv, nv, gv⟩ : Nd).cells.toArray 44 (0, 0))) : W.cell? ⟨g, 1, none⟩ = some (.string (St n.s)) := block_cell h 1
set_option maxRecDepth 100000 in
set_option maxHeartbeats 2000000 in
theorem keep_of : PSc 182 B ts rb tv o (keepS ts) := by
  intro w sv i qs rows h
  have HB0 : Hid (Below w.heap.size w (w.alloc (.cells zNd 44))) := (Below.refl _ _).alloc (Nat.le_refl _) _
  have HZ := hid (alloc_block w (.cells zNd 44))
  have HQ0 := hid (h.on HB0.out)
  have HR0 := hid h
  have hrl := h.lt
  have hmf := mkf
  have HSz : Hid (w.heap.size < (w.alloc (.cells zNd 44)).heap.size) := by show _ < _; simp
  generalize hW : w.alloc (.cells zNd 44) = w1 at *
  have HW := hid hW
  clear h hW
  have HOi := hid (own_one (W := w1) HQ0.out.B_le (rows : Int))
  have HQa := hid (HQ0.out.on ((Below.refl _ _).alloc (Nat.le_refl _) (.cells #[.int .i64 (rows : Int)] 3)))
  have HKa := hid ((Kp.of (T := fun k => k = rb) HB0.out).trans (Kp.alloc _ w1 (.cells #[.int .i64 (rows : Int)] 3)))
  have HZa := hid ((Kp.alloc (fun _ => False) w1 (.cells #[.int .i64 (rows : Int)] 3)).blk HZ.out id)
  go_enter Tryz.func182, Tryz.ntmps182
  go_upto_region 1 with fail
  rw [HW.out]
  go_wp2_with (first
    | (go_at_call 211; refine (lists_any HQa.out).mono ?_; rintro e w2 ⟨hk, ⟨j, c, hr, rfl⟩ | ⟨l, j, v, hr, rfl, hv, hq⟩⟩; (focus (go_wp2_with fail; exact ⟨rfl, P2.bad (HKa.out.trans hk).r (by simp only [keepS, hr, Rs.and])⟩)); have HK2 := hid (HKa.out.trans hk); have HQ2 := hid hq; have HR2 := hid hr; have HV2 := hid (Own.le hv (Nat.le_trans HR0.out.B_le HKa.out.size)); have HO2 := hid (HOi.out.rdr HQa.out hk (by decide)); have HZ2 := hid (hk.blk HZa.out (fun e => by omega)); obtain ⟨pv, cv, rfl⟩ := Own.form hv; clear hk hq hr hv)
    | (refine store_nd (q := ⟨{ laidN 3 rows with names := l }, one3 w1, .slice pv l.length cv, .slice none 0 0⟩) rfl _ _ rfl rfl rfl (nd_all rfl rfl rfl) HZ2.out rfl ?_; intro w4 h4 k4; have H4 := hid h4; have K4 := hid (box_end (q := ⟨{ laidN 3 rows with names := l }, one3 w1, .slice pv l.length cv, .slice none 0 0⟩) HR0.out HK2.out.r HQ2.out (At.refl w1 sv) HSz.out (Nat.le_refl _) HZ2.out k4 ⟨HO2.out, HV2.out, Own.nil _ _ _ _ _⟩); clear h4 k4))
  exact ret_nd rfl rfl H4.out rfl rfl ⟨K4.out.1, .inr ⟨({ laidN 3 rows with names := l }, qs.map (·.np)), j, _, sv, qs, by simp only [keepS, HR2.out, Rs.and], rfl, ⟨_, rfl, rfl, K4.out.2.2.1⟩, K4.out.2.1, rfl, K4.out.2.2.2⟩⟩
set_option maxRecDepth 100000 in
set_option maxHeartbeats 2000000 in
theorem align_of : PSc 183 B ts rb tv o (alignS ts) := by
  intro w sv i qs rows h
  have HB0 : Hid (Below w.heap.size w (w.alloc (.cells zNd 44))) := (Below.refl _ _).alloc (Nat.le_refl _) _
  have HZ := hid (alloc_block w (.cells zNd 44))
  have HQ0 := hid (h.on HB0.out)
  have HR0 := hid h
  have hrl := h.lt
  have hmf := mkf
  have HSz : Hid (w.heap.size < (w.alloc (.cells zNd 44)).heap.size) := by show _ < _; simp
  generalize hW : w.alloc (.cells zNd 44) = w1 at *
  have HW := hid hW
  clear h hW
  have HOi := hid (own_one (W := w1) HQ0.out.B_le (rows : Int))
  have HQa := hid (HQ0.out.on ((Below.refl _ _).alloc (Nat.le_refl _) (.cells #[.int .i64 (rows : Int)] 3)))
  have HKa := hid ((Kp.of (T := fun k => k = rb) HB0.out).trans (Kp.alloc _ w1 (.cells #[.int .i64 (rows : Int)] 3)))
  have HZa := hid ((Kp.alloc (fun _ => False) w1 (.cells #[.int .i64 (rows : Int)] 3)).blk HZ.out id)
  go_enter Tryz.func183, Tryz.ntmps183
  go_upto_region 1 with fail
  rw [HW.out]
  go_wp2_with (first
    | (go_at_call 148; refine (number_any HQa.out).mono ?_; rintro e w2 ⟨hk, ⟨j, c, hr, rfl⟩ | ⟨n, j, v, hr, rfl, rfl, hq⟩⟩; (focus (go_wp2_with fail; exact ⟨rfl, P2.bad (HKa.out.trans hk).r (by simp only [alignS, hr, Rs.and])⟩)); have HK2 := hid (HKa.out.trans hk); have HQ2 := hid hq; have HR2 := hid hr; have HO2 := hid (HOi.out.rdr HQa.out hk (by decide)); have HZ2 := hid (hk.blk HZa.out (fun e => by omega)); clear hk hq hr)
    | (refine store_nd (q := ⟨{ laidN 4 rows with n := n }, one3 w1, .slice none 0 0, .slice none 0 0⟩) rfl _ _ rfl rfl rfl (nd_all rfl rfl rfl) HZ2.out rfl ?_; intro w4 h4 k4; have H4 := hid h4; have K4 := hid (box_end (q := ⟨{ laidN 4 rows with n := n }, one3 w1, .slice none 0 0, .slice none 0 0⟩) HR0.out HK2.out.r HQ2.out (At.refl w1 sv) HSz.out (Nat.le_refl _) HZ2.out k4 ⟨HO2.out, Own.nil _ _ _ _ _, Own.nil _ _ _ _ _⟩); clear h4 k4))
  exact ret_nd rfl rfl H4.out rfl rfl ⟨K4.out.1, .inr ⟨({ laidN 4 rows with n := n }, qs.map (·.np)), j, _, sv, qs, by simp only [alignS, HR2.out, Rs.and], rfl, ⟨_, rfl, rfl, K4.out.2.2.1⟩, K4.out.2.1, rfl, K4.out.2.2.2⟩⟩
set_option maxRecDepth 100000 in
set_option maxHeartbeats 2000000 in
theorem top_of : PSc 185 B ts rb tv o (topS ts) := by
  intro w sv i qs rows h
  have HB0 : Hid (Below w.heap.size w (w.alloc (.cells zNd 44))) := (Below.refl _ _).alloc (Nat.le_refl _) _
  have HZ := hid (alloc_block w (.cells zNd 44))
  have HQ0 := hid (h.on HB0.out)
  have HR0 := hid h
  have hrl := h.lt
  have hmf := mkf
  have HSz : Hid (w.heap.size < (w.alloc (.cells zNd 44)).heap.size) := by show _ < _; simp
  generalize hW : w.alloc (.cells zNd 44) = w1 at *
  have HW := hid hW
  clear h hW
  have HOi := hid (own_one (W := w1) HQ0.out.B_le (rows : Int))
  have HQa := hid (HQ0.out.on ((Below.refl _ _).alloc (Nat.le_refl _) (.cells #[.int .i64 (rows : Int)] 3)))
  have HKa := hid ((Kp.of (T := fun k => k = rb) HB0.out).trans (Kp.alloc _ w1 (.cells #[.int .i64 (rows : Int)] 3)))
  have HZa := hid ((Kp.alloc (fun _ => False) w1 (.cells #[.int .i64 (rows : Int)] 3)).blk HZ.out id)
  have M2 : Hid True := trivial
  go_enter Tryz.func185, Tryz.ntmps185
  go_upto_region 1 with fail
  rw [HW.out]
  go_wp2_with (first
    | (go_at_call 148; refine (number_any HQa.out).mono ?_; rintro e w2 ⟨hk, ⟨j, c, hr, rfl⟩ | ⟨n, j, v, hr, rfl, rfl, hq⟩⟩; (focus (go_wp2_with fail; exact ⟨rfl, P2.bad (HKa.out.trans hk).r (by simp only [topS, hr, Rs.and])⟩)); have HK2 := hid (HKa.out.trans hk); have HQ2 := hid hq; have HR2 := hid hr; have HO2 := hid (HOi.out.rdr HQa.out hk (by decide)); have HZ2 := hid (hk.blk HZa.out (fun e => by omega)); have ng : ¬ w2.heap.size = w.heap.size := (fun e => by have := lt_of_block HZ2.out; omega); have ng2 : ¬ w2.heap.size = rb := (fun e => by have := HQ2.out.lt; omega); clear hk hq hr)
    | (have FIRST := M2; refine store_nd (q := ⟨{ laidN 6 rows with n := n }, one3 w1, .slice none 0 0, .slice none 0 0⟩) rfl _ _ rfl rfl rfl (nd_all rfl rfl rfl) (alloc_block w2 _) rfl ?_; intro w3 h3 k3; have H3 := hid h3; have K3 := hid (Rq.back HR0.out HQ2.out HK2.out ((Kp.alloc (fun k => w.heap.size ≤ k) w2 (.cells zNd 44)).trans (k3.imp (fun k _ e => by have := HK2.out.size; omega)))); have HZ3 := hid (k3.blk ((Kp.alloc (fun _ => False) w2 (.cells zNd 44)).blk HZ2.out id) (fun e => ng e.symm)); have HO3 := hid ((HO2.out.on ((Below.refl _ _).alloc (Nat.le_refl _) (.cells zNd 44))).nd (alloc_block w2 _) k3 (by decide)); clear h3 k3 FIRST M2)
    | (go_at_call 146; refine (want_any K3.out.1 wBy).mono ?_; rintro e w4 ⟨hk, ⟨j2, c, hr, rfl⟩ | ⟨_, j2, v, hr, rfl, rfl, hq⟩⟩; (focus (go_wp2_with fail; exact ⟨rfl, P2.bad (K3.out.2.trans hk).r (by simp only [topS, HR2.out, hr, Rs.and])⟩)); have HR4 := hid hr; have H4 := hid (hk.blk H3.out ng2); have K4 := hid (K3.out.2.trans hk); have HQ4 := hid hq; have HZ4 := hid (hk.blk HZ3.out (fun e => by omega)); have HO4 := hid (HO3.out.rdr K3.out.1 hk (by decide)); clear hk hq hr)
    | (go_at_call 147; refine (name_any HQ4.out).mono ?_; rintro e w5 ⟨hk, ⟨j3, c, hr, rfl⟩ | ⟨s, j3, v, hr, rfl, rfl, hq⟩⟩; (focus (go_wp2_with fail; exact ⟨rfl, P2.bad (K4.out.trans hk).r (by simp only [topS, HR2.out, HR4.out, hr, Rs.and])⟩)); have HR5 := hid hr; have H5 := hid (hk.blk H4.out ng2); have c5 := nd_c1 H5.out; have f5 := block_frozen H5.out 1; have H6 := hid (nd_set1 H5.out s); have K6 := hid (Rq.back HR0.out hq (K4.out.trans hk) (Kp.set (T := fun k => w.heap.size ≤ k) (b := w2.heap.size) (i := 1) HK2.out.size (.string (St s)))); have HZ6 := hid ((Kp.set (T := fun k => k = w2.heap.size) (i := 1) rfl (.string (St s))).blk (hk.blk HZ4.out (fun e => by omega)) (fun e => ng e.symm)); have HO6 := hid ((HO4.out.rdr HQ4.out hk (by decide)).nd H5.out (Kp.set (T := fun k => k = w2.heap.size) (i := 1) rfl (.string (St s))) (by decide)); clear hk hq hr)
    | (refine load_nd (q := ⟨{ laidN 6 rows with n := n, s := s }, one3 w1, .slice none 0 0, .slice none 0 0⟩) rfl _ rfl rfl H6.out ?_)
    | (refine store_nd (q := ⟨{ laidN 6 rows with n := n, s := s }, one3 w1, .slice none 0 0, .slice none 0 0⟩) rfl _ _ rfl rfl rfl (nd_all rfl rfl rfl) HZ6.out rfl ?_; intro w9 h9 k9; have H9 := hid h9; have K9 := hid (box_end (q := ⟨{ laidN 6 rows with n := n, s := s }, one3 w1, .slice none 0 0, .slice none 0 0⟩) HR0.out K6.out.2.r K6.out.1 (At.refl w1 sv) HSz.out (Nat.le_refl _) HZ6.out k9 ⟨HO6.out, Own.nil _ _ _ _ _, Own.nil _ _ _ _ _⟩); clear h9 k9))
  exact ret_nd rfl rfl H9.out rfl rfl ⟨K9.out.1, .inr ⟨({ laidN 6 rows with n := n, s := s }, qs.map (·.np)), j3, _, sv, qs, by simp only [topS, HR2.out, HR4.out, HR5.out, Rs.and], rfl, ⟨_, rfl, rfl, K9.out.2.2.1⟩, K9.out.2.1, rfl, K9.out.2.2.2⟩⟩
end
end Go.Proofs.YtmpjmimhoikknaaGreatDoor
