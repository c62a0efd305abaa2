/-
  What inBrackets, not and the steps of a query do.
-/
import Derived.Test.YtomnjckbgmbgmaaGreatDoorQPRh
namespace Go.Proofs.YtomnjckbgmbgmaaGreatDoor
open Go.RowKit Go.Joins

section
variable {B : Nat} {ts : List Tp} {w : World} {rb : Nat} {tv sv : Value} {o i : Nat} {qs : List Nd}
theorem mkf : ∀ (fn : Fn) (first cap : Array Value) (w : World), (Instr.makeFunc fn first cap).run Tryz.prog w = .ok (.func fn first cap) w := fun _ _ _ _ => rfl
/- What may stand within a bracket, if one more may be open. -/
def Deep (F : Nat) (B : Nat) (ts : List Tp) (rb : Nat) (tv : Value) (o : Nat) : Option PN → Prop
  | none => o = 16
  | some p => o < 16 ∧ PNc F B ts rb tv (o + 1) p
theorem Deep.none {F : Nat} {d : Option PN} (h : Deep F B ts rb tv o d) (ho : o = 16) : d = .none := by
  cases d with
  | none => rfl
  | some p => have := h.1; omega
theorem Deep.some {F : Nat} {d : Option PN} (h : Deep F B ts rb tv o d) (ho : o < 16) : ∃ p, d = .some p ∧ PNc F B ts rb tv (o + 1) p := by
  cases d with
  | none => have h : o = 16 := h; omega
  | some p => exact ⟨p, rfl, h.2⟩
theorem bad_if {α : Type} {r : Rs α} {j : Nat} {c : Int} (h : r = .bad j c) : r = .bad j c := h
set_option maxRecDepth 100000 in
set_option maxHeartbeats 2000000 in
theorem inBr_cond {d : Option PN} (hd : Deep 33 B ts rb tv o d) (h : Rq B ts w rb tv sv o i qs) : Calls Tryz.prog 121 #[dp rb, .func (.func 33) #[dp rb] #[]] w (P2 B ts rb tv sv o w vNat (inBr ts d i (qs.map (·.np)))) := by
  have HD := hid hd
  have HE := hid (enter_any h wOpen)
  clear hd h
  go_enter Tryz.func121, Tryz.ntmps121
  go_wp2_with (first
    | (go_at_call 119; refine HE.out.mono ?_; rintro e w1 ⟨hk, ⟨hw, rfl, hq⟩ | ⟨hw, ho, rfl⟩ | ⟨hw, ho, rfl, hq⟩⟩; (focus (have HQ := hid hq; have HK := hid hk; have HX := hid hw; clear hq hk hw; go_wp2_with (go_at_call 87; refine (fail_any HQ.out 120).mono ?_; rintro e w2 ⟨rfl, he⟩; replace he := he.symm; subst he); exact ⟨rfl, P2.bad HK.out.r (by simp [inBr, HX.out])⟩)); (focus (have HX := hid hw; have HK := hid hk; have HDn := hid (HD.out.none ho); clear hw hk ho; go_wp2_with fail; exact ⟨rfl, P2.bad HK.out.r (by simp [inBr, HX.out, HDn.out])⟩)); obtain ⟨p, hdp, hp⟩ := HD.out.some ho; have HX := hid hw; have HK1 := hid hk; have HQ1 := hid hq; have HDs := hid hdp; have HP := hid hp; clear hw hk hq ho hdp hp)
    | (go_at_call 33; refine (HP.out _ _ _ _ HQ1.out).mono ?_; rintro e w2 ⟨hk, ⟨j, c, hr, rfl⟩ | ⟨r, j, v, sv2, qs2, hr, rfl, rfl, hq, hm, ha⟩⟩; (focus (go_wp2_with fail; exact ⟨rfl, P2.bad (HK1.out.r.trans hk) (by simp [inBr, HX.out, HDs.out, hr, Rs.and])⟩)); have HK2 := hid (HK1.out.r.trans hk); have HQ2 := hid hq; have HR2 := hid hr; have HM2 := hid hm; have HA2 := hid (At.trans (At.refl w sv) ha HK1.out.size); clear hk hq hr hm ha)
    | (go_at_call 88; refine (want_any HQ2.out wShut).mono ?_; rintro e w3 ⟨hk, ⟨j2, c, hr, rfl⟩ | ⟨_, j2, v, hr, rfl, rfl, hq⟩⟩; (focus (go_wp2_with fail; exact ⟨rfl, P2.bad (HK2.out.next HA2.out hk.r) (by simp [inBr, HX.out, HDs.out, HR2.out, hr, Rs.and])⟩)); have HK3 := hid (HK2.out.next HA2.out hk.r); have HQ3 := hid hq; have HR3 := hid hr; clear hk hq hr)
    | (go_at_call 120; refine (leave_any HQ3.out).mono ?_; rintro e w4 ⟨rfl, hq, hk⟩; have HK4 := hid (HK3.out.next HA2.out hk.r); have HQ4 := hid hq; clear hq hk))
  go_ret
  exact ⟨HK4.out, .inr ⟨r, j2, _, sv2, qs2, by simp [inBr, HX.out, HDs.out, HR2.out, HR3.out, Rs.and], rfl, rfl, HQ4.out, HM2.out, HA2.out⟩⟩
set_option maxRecDepth 100000 in
set_option maxHeartbeats 2000000 in
theorem inBr_query {d : Option PN} (hd : Deep 30 B ts rb tv o d) (h : Rq B ts w rb tv sv o i qs) : Calls Tryz.prog 121 #[dp rb, .func (.func 30) #[dp rb] #[]] w (P2 B ts rb tv sv o w vNat (inBr ts d i (qs.map (·.np)))) := by
  have HD := hid hd
  have HE := hid (enter_any h wOpen)
  clear hd h
  go_enter Tryz.func121, Tryz.ntmps121
  go_wp2_with (first
    | (go_at_call 119; refine HE.out.mono ?_; rintro e w1 ⟨hk, ⟨hw, rfl, hq⟩ | ⟨hw, ho, rfl⟩ | ⟨hw, ho, rfl, hq⟩⟩; (focus (have HQ := hid hq; have HK := hid hk; have HX := hid hw; clear hq hk hw; go_wp2_with (go_at_call 87; refine (fail_any HQ.out 120).mono ?_; rintro e w2 ⟨rfl, he⟩; replace he := he.symm; subst he); exact ⟨rfl, P2.bad HK.out.r (by simp [inBr, HX.out])⟩)); (focus (have HX := hid hw; have HK := hid hk; have HDn := hid (HD.out.none ho); clear hw hk ho; go_wp2_with fail; exact ⟨rfl, P2.bad HK.out.r (by simp [inBr, HX.out, HDn.out])⟩)); obtain ⟨p, hdp, hp⟩ := HD.out.some ho; have HX := hid hw; have HK1 := hid hk; have HQ1 := hid hq; have HDs := hid hdp; have HP := hid hp; clear hw hk hq ho hdp hp)
    | (go_at_call 30; refine (HP.out _ _ _ _ HQ1.out).mono ?_; rintro e w2 ⟨hk, ⟨j, c, hr, rfl⟩ | ⟨r, j, v, sv2, qs2, hr, rfl, rfl, hq, hm, ha⟩⟩; (focus (go_wp2_with fail; exact ⟨rfl, P2.bad (HK1.out.r.trans hk) (by simp [inBr, HX.out, HDs.out, hr, Rs.and])⟩)); have HK2 := hid (HK1.out.r.trans hk); have HQ2 := hid hq; have HR2 := hid hr; have HM2 := hid hm; have HA2 := hid (At.trans (At.refl w sv) ha HK1.out.size); clear hk hq hr hm ha)
    | (go_at_call 88; refine (want_any HQ2.out wShut).mono ?_; rintro e w3 ⟨hk, ⟨j2, c, hr, rfl⟩ | ⟨_, j2, v, hr, rfl, rfl, hq⟩⟩; (focus (go_wp2_with fail; exact ⟨rfl, P2.bad (HK2.out.next HA2.out hk.r) (by simp [inBr, HX.out, HDs.out, HR2.out, hr, Rs.and])⟩)); have HK3 := hid (HK2.out.next HA2.out hk.r); have HQ3 := hid hq; have HR3 := hid hr; clear hk hq hr)
    | (go_at_call 120; refine (leave_any HQ3.out).mono ?_; rintro e w4 ⟨rfl, hq, hk⟩; have HK4 := hid (HK3.out.next HA2.out hk.r); have HQ4 := hid hq; clear hq hk))
  go_ret
  exact ⟨HK4.out, .inr ⟨r, j2, _, sv2, qs2, by simp [inBr, HX.out, HDs.out, HR2.out, HR3.out, Rs.and], rfl, rfl, HQ4.out, HM2.out, HA2.out⟩⟩
/- One thing more may be open: a not's. -/
def Deep2 (B : Nat) (ts : List Tp) (rb : Nat) (tv : Value) (o : Nat) : Option PN → Prop
  | none => o = 16
  | some p => o < 16 ∧ PNc 97 B ts rb tv (o + 1) p ∧ GoN ts p
theorem Deep2.cond {d : Option PN} (h : Deep2 B ts rb tv o d) : Deep 33 B ts rb tv o (d.map (condB ts)) := by
  cases d with
  | none => exact h
  | some p => exact ⟨h.1, cond_of h.2.1 h.2.2⟩
theorem Deep2.nt {d : Option PN} (h : Deep2 B ts rb tv o d) : Deep 97 B ts rb tv o d := by
  cases d with
  | none => exact h
  | some p => exact ⟨h.1, h.2.1⟩
theorem Deep2.go {d : Option PN} (h : Deep2 B ts rb tv o d) : ∀ p, d = .some p → GoN ts p := by
  intro p hp; subst hp; exact h.2.2
set_option maxRecDepth 100000 in
set_option maxHeartbeats 2000000 in
theorem not_of {d : Option PN} (hd : Deep2 B ts rb tv o d) : PNc 97 B ts rb tv o (notB ts d) := by
  intro w sv i qs h
  have HD := hid hd
  have HE := hid (enter_any h wNot)
  have HQL := hid h.ql
  have hmf := mkf
  clear hd h
  go_enter Tryz.func97, Tryz.ntmps97
  go_wp2_with (first
    | (go_at_call 119; refine HE.out.mono ?_; rintro e w1 ⟨hk, ⟨hw, rfl, hq⟩ | ⟨hw, ho, rfl⟩ | ⟨hw, ho, rfl, hq⟩⟩; rotate_left; (focus (have HX := hid hw; have HK := hid hk; have HDn := hid (HD.out.nt.none ho); clear hw hk ho; go_wp2_with fail; exact ⟨rfl, P2.bad HK.out.r (by simp [notB, HX.out, HDn.out])⟩)); (focus (obtain ⟨p, hdp, hp⟩ := HD.out.nt.some ho; have HX := hid hw; have HK1 := hid hk; have HQ1 := hid hq; have HDs := hid hdp; have HP := hid hp; have HGo := hid (HD.out.go p hdp); clear hw hk hq ho hdp hp; go_wp2_with (first
            | (go_at_call 97; refine (HP.out _ _ _ _ HQ1.out).mono ?_; rintro e w2 ⟨hk, ⟨j, c, hr, rfl⟩ | ⟨r, j, v, sv2, qs2, hr, rfl, rfl, hq, hm, ha⟩⟩; (focus (go_wp2_with fail; exact ⟨rfl, P2.bad (HK1.out.r.trans hk) (by simp [notB, HX.out, HDs.out, hr, Rs.and])⟩)); have HK2 := hid (HK1.out.r.trans hk); have HQ2 := hid hq; have HR2 := hid hr; have HM2 := hid hm; have HA2 := hid (At.trans (At.refl w sv) ha HK1.out.size); have HLl : Hid (qs2.length + 1 ≤ j) := (by show _ ≤ _; have g := HGo.out _ _ _ _ hr; have e := congrArg List.length hm; simp at e g; have := HQL.out; omega); clear hk hq hr hm ha)
            | (go_at_call 120; refine (leave_any HQ2.out).mono ?_; rintro e w4 ⟨rfl, hq, hk⟩; have HK4 := hid (HK2.out.next HA2.out hk.r); have HQ4 := hid hq; clear hq hk)
            | (go_at_call 50; refine (lay_any (q := nam1 w4 { n0 with kind := 13, l := [(r.1 : Int)] }) (HQ4.out.on ((Below.refl _ _).alloc (Nat.le_refl _) _)) (nam1_in HQ4.out.B_le rfl rfl rfl) HLl.out).mono ?_; rintro e w5 ⟨rfl, sv5, hq, ha, hk⟩; have HQ5 := hid hq; have HK5 := hid (HK4.out.next HA2.out ((Kp.alloc _ _ _).trans hk)); have HA5 := hid (HA2.out.trans ha (Nat.le_trans HK4.out.size (by simp))); clear hq ha hk)); go_ret; have eL := congrArg List.length HM2.out; simp only [List.length_map] at eL; exact ⟨HK5.out, .inr ⟨(qs2.length, r.2 ++ [{ n0 with kind := 13, l := [(r.1 : Int)] }]), j, _, sv5, _, by simp [notB, HX.out, HDs.out, HR2.out, Rs.and, eL], rfl, rfl, HQ5.out, map_snoc HM2.out, HA5.out⟩⟩)); have HX := hid hw; have HK1 := hid hk; have HQ1 := hid hq; clear hw hk hq)
    | (go_at_call 91; refine (stands_any HQ1.out wOpen).mono ?_; rintro e w2 ⟨rfl, hb⟩; have HQ2 := hid (HQ1.out.on hb); have HK2 := hid (HK1.out.trans (Kp.of hb)); clear hb;  cases hw : isW ts i wOpen with
        | true =>
          have HY := hid hw
          clear hw
          go_wp2_with (go_at_call 121; refine (inBr_cond HD.out.cond HQ2.out).mono ?_; rintro e w3 ⟨hk, ⟨j, c, hr, rfl⟩ | ⟨r, j, v, sv3, qs3, hr, rfl, rfl, hq, hm, ha⟩⟩; (focus (go_wp2_with fail; exact ⟨rfl, P2.bad (HK2.out.r.trans hk) (by simp [notB, HX.out, HY.out, hr])⟩)); have HK3 := hid (HK2.out.r.trans hk); have HQ3 := hid hq; have HR3 := hid hr; have HM3 := hid hm; have HA3 := hid (At.trans (At.refl w sv) ha HK2.out.size); clear hk hq hr hm ha)
          go_ret
          exact ⟨HK3.out, .inr ⟨r, j, _, sv3, qs3, by simp [notB, HX.out, HY.out, HR3.out], rfl, rfl, HQ3.out, HM3.out, HA3.out⟩⟩
        | false =>
          have HY := hid hw
          clear hw
          go_wp2_with (first
            | (go_at_call 122; refine (test_any HQ2.out).mono ?_; rintro e w3 ⟨hk, ⟨j, c, hr, rfl⟩ | ⟨x, j, v, hr, rfl, ⟨q, hqx, rfl, hqn⟩, hq⟩⟩; (focus (go_wp2_with fail; exact ⟨rfl, P2.bad (HK2.out.r.trans hk.r) (by simp [notB, HX.out, HY.out, hr, Rs.and])⟩)); have HK3 := hid (HK2.out.trans hk); have HQ3 := hid hq; have HR3 := hid hr; have HN3 := hid hqn; have HE3 := hid hqx; have HLl : Hid (qs.length + 1 ≤ j) := (by show _ ≤ _; have g := test_go ts _ _ _ hr; have := HQL.out; omega); clear hk hq hr hqn hqx)
            | (go_at_call 50; refine (lay_any HQ3.out HN3.out HLl.out).mono ?_; rintro e w5 ⟨rfl, sv5, hq, ha, hk⟩; have HQ5 := hid hq; have HK5 := hid (HK3.out.r.trans hk); have HA5 := hid (At.trans (At.refl w sv) ha HK3.out.size); clear hq ha hk))
          go_ret
          exact ⟨HK5.out, .inr ⟨(qs.length, qs.map (·.np) ++ [x]), j, _, sv5, _, by simp [notB, HX.out, HY.out, HR3.out, Rs.and], rfl, rfl, HQ5.out, by rw [map_snoc rfl, HE3.out], HA5.out⟩⟩))
theorem not_all (B : Nat) (ts : List Tp) (rb : Nat) (tv : Value) : ∀ (d o : Nat), o + d = 16 → PNc 97 B ts rb tv o (notS ts d)
  | 0, o, h => not_of (d := none) (show o = 16 by omega)
  | d + 1, o, h => not_of (d := some (notS ts d)) ⟨by omega, not_all B ts rb tv d (o + 1) (by omega), not_go ts d⟩
theorem cond_all (B : Nat) (ts : List Tp) (rb : Nat) (tv : Value) (d o : Nat) (h : o + d = 16) : PNc 33 B ts rb tv o (condS ts d) := cond_of (not_all B ts rb tv d o h) (not_go ts d)
/- What a step reads: its node, and the nodes ahead of it. -/
def PSc (F : Nat) (B : Nat) (ts : List Tp) (rb : Nat) (tv : Value) (o : Nat) (f : Nat → Nat → List Np → Rs (Np × List Np)) : Prop :=
  ∀ (w : World) (sv : Value) (i : Nat) (qs : List Nd) (rows : Nat), Rq B ts w rb tv sv o i qs → Calls Tryz.prog F #[dp rb, .int .i64 (rows : Int)] w (P2 B ts rb tv sv o w (vNd B) (f rows i (qs.map (·.np))))
/- Its node is laid into the result. -/
theorem box_end {w1 w2 w3 : World} {sv' : Value} {j g : Nat} {qs' : List Nd} {cs : Array Value} {q : Nd} (h0 : Rq B ts w rb tv sv o i qs) (hk : Kp (Tq rb sv) w w2) (h2 : Rq B ts w2 rb tv sv' o j qs') (ha : At w1 sv sv') (hs : g < w1.heap.size) (hgw : w.heap.size ≤ g) (hg : w2.heap[g]? = some (.cells cs 52 (0, 0))) (k3 : Kp (fun k => k = g) w2 w3) (hq : NdIn B w2 q) :
    Kp (Tq rb sv) w w3 ∧ Rq B ts w3 rb tv sv' o j qs' ∧ NdIn B w3 q ∧ At w sv sv' := by
  have hT : TK w2 (fun k => k = g) := fun k e c t fz hc => by subst e; rw [hg] at hc; cases hc; decide
  refine ⟨hk.trans' k3 (fun k hk e => by omega), h2.kp k3 ?_ hT (fun k e => by have := h0.B_le; omega), hq.kp k3 hT, fun k e => ?_⟩
  · rintro k (rfl | hk') e
    · have := h0.lt; omega
    · rcases ha k hk' with hh | hh
      · have := (h0.own.at hh).2; omega
      · omega
  · rcases ha k e with hh | hh
    · exact .inl hh
    · exact .inr (by omega)
abbrev whereS (c : PN) (rows i : Nat) (ns : List Np) : Rs (Np × List Np) := (c i ns).and fun r j => .ok ({ n0 with kind := 2, l := [(rows : Int), (r.1 : Int)] }, r.2) j
abbrev keepS (ts : List Tp) (rows i : Nat) (ns : List Np) : Rs (Np × List Np) := (listS ts (nameS ts) i).and fun l j => .ok ({ laidN 3 rows with names := l }, ns) j
abbrev alignS (ts : List Tp) (rows i : Nat) (ns : List Np) : Rs (Np × List Np) := (numS' ts i).and fun n j => .ok ({ laidN 4 rows with n := n }, ns) j
abbrev groupS (ts : List Tp) (rows i : Nat) (ns : List Np) : Rs (Np × List Np) := if isW ts i wColon then (listS ts (aggS ts) (i + 1)).and fun l j => .ok ({ laidN 5 rows with aggs := l }, ns) j
        else (listS ts (nameS ts) i).and fun l j => (wantS ts wColon j).and fun _ j => (listS ts (aggS ts) j).and fun g j => .ok ({ laidN 5 rows with names := l, aggs := g }, ns) j
abbrev topS (ts : List Tp) (rows i : Nat) (ns : List Np) : Rs (Np × List Np) := (numS' ts i).and fun n j => (wantS ts wBy j).and fun _ j => (nameS ts j).and fun x j => .ok ({ laidN 6 rows with n := n, s := x }, ns) j
abbrev joinS (k : Int) (ts : List Tp) (d : Option PN) (rows i : Nat) (ns : List Np) : Rs (Np × List Np) := (inBr ts d i ns).and fun r j => .ok ({ n0 with kind := k, l := [(rows : Int), (r.1 : Int)] }, r.2) j
set_option maxRecDepth 100000 in
set_option maxHeartbeats 2000000 in
theorem where_of {c : PN} (hc : PNc 33 B ts rb tv o c) : PSc 112 B ts rb tv o (whereS c) := by
  intro w sv i qs rows h
  have HB0 : Hid (Below w.heap.size w (w.alloc (.cells zNd 52))) := (Below.refl _ _).alloc (Nat.le_refl _) _
  have HZ := hid (alloc_block w (.cells zNd 52))
  have HQ0 := hid (h.on HB0.out)
  have HR0 := hid h
  have hrl := h.lt
  have hmf := mkf
  have HSz : Hid (w.heap.size < (w.alloc (.cells zNd 52)).heap.size) := by show _ < _; simp
  generalize hW : w.alloc (.cells zNd 52) = w1 at *
  have HW := hid hW
  clear h hW
  have HC := hid (hc _ _ _ _ HQ0.out)
  go_enter Tryz.func112, Tryz.ntmps112
  go_upto_region 1 with fail
  rw [HW.out]
  go_wp2_with (first
    | (go_at_call 33; refine HC.out.mono ?_; rintro e w2 ⟨hk, ⟨j, c, hr, rfl⟩ | ⟨r, j, v, sv2, qs2, hr, rfl, rfl, hq, hm, ha⟩⟩; (focus (go_wp2_with fail; exact ⟨rfl, P2.bad ((Kp.of HB0.out).trans hk) (by simp only [whereS, hr, Rs.and])⟩)); have HK2 := hid ((Kp.of HB0.out).trans hk); have HQ2 := hid hq; have HR2 := hid hr; have HM2 := hid hm; have HA2 := hid ha; have HZ2 := hid (hk.blk HZ.out (fun e => by have := HQ0.out.T_lt _ e; have hh := HR0.out.T_lt _ e; omega)); clear hk hq hr hm ha)
    | (refine store_nd (q := nam2 w2 { n0 with kind := 2, l := [(rows : Int), (r.1 : Int)] }) rfl _ _ rfl rfl rfl (nam2_in (a := (rows : Int)) (b := (r.1 : Int)) HQ2.out.B_le rfl rfl rfl).all ((Kp.alloc (fun _ => False) w2 (.cells #[.int .i64 (rows : Int), .int .i64 (r.1 : Int)] 3)).blk HZ2.out id) rfl ?_; intro w4 h4 k4; have H4 := hid h4; have K4 := hid (box_end (q := nam2 w2 { n0 with kind := 2, l := [(rows : Int), (r.1 : Int)] }) HR0.out (HK2.out.trans (Kp.alloc _ w2 (.cells #[.int .i64 (rows : Int), .int .i64 (r.1 : Int)] 3))) (HQ2.out.on ((Below.refl _ _).alloc (Nat.le_refl _) _)) HA2.out HSz.out (Nat.le_refl _) ((Kp.alloc (fun _ => False) w2 (.cells #[.int .i64 (rows : Int), .int .i64 (r.1 : Int)] 3)).blk HZ2.out id) k4 (nam2_in HQ2.out.B_le rfl rfl rfl)); clear h4 k4))
  exact ret_nd rfl rfl H4.out rfl rfl ⟨K4.out.1, .inr ⟨({ n0 with kind := 2, l := [(rows : Int), (r.1 : Int)] }, r.2), j, _, sv2, qs2, by simp only [whereS, HR2.out, Rs.and], rfl, ⟨_, rfl, rfl, K4.out.2.2.1⟩, K4.out.2.1, HM2.out, K4.out.2.2.2⟩⟩
set_option maxRecDepth 100000 in
set_option maxHeartbeats 2000000 in
theorem join_of {d : Option PN} (hd : Deep 30 B ts rb tv o d) : PSc 117 B ts rb tv o (joinS 7 ts d) := by
  intro w sv i qs rows h
  have HB0 : Hid (Below w.heap.size w (w.alloc (.cells zNd 52))) := (Below.refl _ _).alloc (Nat.le_refl _) _
  have HZ := hid (alloc_block w (.cells zNd 52))
  have HQ0 := hid (h.on HB0.out)
  have HR0 := hid h
  have hrl := h.lt
  have hmf := mkf
  have HSz : Hid (w.heap.size < (w.alloc (.cells zNd 52)).heap.size) := by show _ < _; simp
  generalize hW : w.alloc (.cells zNd 52) = w1 at *
  have HW := hid hW
  clear h hW
  have HC := hid (inBr_query hd HQ0.out)
  go_enter Tryz.func117, Tryz.ntmps117
  go_upto_region 1 with fail
  rw [HW.out]
  go_wp2_with (first
    | (go_at_call 121; refine HC.out.mono ?_; rintro e w2 ⟨hk, ⟨j, c, hr, rfl⟩ | ⟨r, j, v, sv2, qs2, hr, rfl, rfl, hq, hm, ha⟩⟩; (focus (go_wp2_with fail; exact ⟨rfl, P2.bad ((Kp.of HB0.out).trans hk) (by simp only [joinS, hr, Rs.and])⟩)); have HK2 := hid ((Kp.of HB0.out).trans hk); have HQ2 := hid hq; have HR2 := hid hr; have HM2 := hid hm; have HA2 := hid ha; have HZ2 := hid (hk.blk HZ.out (fun e => by have := HQ0.out.T_lt _ e; have hh := HR0.out.T_lt _ e; omega)); clear hk hq hr hm ha)
    | (refine store_nd (q := nam2 w2 { n0 with kind := 7, l := [(rows : Int), (r.1 : Int)] }) rfl _ _ rfl rfl rfl (nam2_in (a := (rows : Int)) (b := (r.1 : Int)) HQ2.out.B_le rfl rfl rfl).all ((Kp.alloc (fun _ => False) w2 (.cells #[.int .i64 (rows : Int), .int .i64 (r.1 : Int)] 3)).blk HZ2.out id) rfl ?_; intro w4 h4 k4; have H4 := hid h4; have K4 := hid (box_end (q := nam2 w2 { n0 with kind := 7, l := [(rows : Int), (r.1 : Int)] }) HR0.out (HK2.out.trans (Kp.alloc _ w2 (.cells #[.int .i64 (rows : Int), .int .i64 (r.1 : Int)] 3))) (HQ2.out.on ((Below.refl _ _).alloc (Nat.le_refl _) _)) HA2.out HSz.out (Nat.le_refl _) ((Kp.alloc (fun _ => False) w2 (.cells #[.int .i64 (rows : Int), .int .i64 (r.1 : Int)] 3)).blk HZ2.out id) k4 (nam2_in HQ2.out.B_le rfl rfl rfl)); clear h4 k4))
  exact ret_nd rfl rfl H4.out rfl rfl ⟨K4.out.1, .inr ⟨({ n0 with kind := 7, l := [(rows : Int), (r.1 : Int)] }, r.2), j, _, sv2, qs2, by simp only [joinS, HR2.out, Rs.and], rfl, ⟨_, rfl, rfl, K4.out.2.2.1⟩, K4.out.2.1, HM2.out, K4.out.2.2.2⟩⟩
set_option maxRecDepth 100000 in
set_option maxHeartbeats 2000000 in
theorem union_of {d : Option PN} (hd : Deep 30 B ts rb tv o d) : PSc 118 B ts rb tv o (joinS 8 ts d) := by
  intro w sv i qs rows h
  have HB0 : Hid (Below w.heap.size w (w.alloc (.cells zNd 52))) := (Below.refl _ _).alloc (Nat.le_refl _) _
  have HZ := hid (alloc_block w (.cells zNd 52))
  have HQ0 := hid (h.on HB0.out)
  have HR0 := hid h
  have hrl := h.lt
  have hmf := mkf
  have HSz : Hid (w.heap.size < (w.alloc (.cells zNd 52)).heap.size) := by show _ < _; simp
  generalize hW : w.alloc (.cells zNd 52) = w1 at *
  have HW := hid hW
  clear h hW
  have HC := hid (inBr_query hd HQ0.out)
  go_enter Tryz.func118, Tryz.ntmps118
  go_upto_region 1 with fail
  rw [HW.out]
  go_wp2_with (first
    | (go_at_call 121; refine HC.out.mono ?_; rintro e w2 ⟨hk, ⟨j, c, hr, rfl⟩ | ⟨r, j, v, sv2, qs2, hr, rfl, rfl, hq, hm, ha⟩⟩; (focus (go_wp2_with fail; exact ⟨rfl, P2.bad ((Kp.of HB0.out).trans hk) (by simp only [joinS, hr, Rs.and])⟩)); have HK2 := hid ((Kp.of HB0.out).trans hk); have HQ2 := hid hq; have HR2 := hid hr; have HM2 := hid hm; have HA2 := hid ha; have HZ2 := hid (hk.blk HZ.out (fun e => by have := HQ0.out.T_lt _ e; have hh := HR0.out.T_lt _ e; omega)); clear hk hq hr hm ha)
    | (refine store_nd (q := nam2 w2 { n0 with kind := 8, l := [(rows : Int), (r.1 : Int)] }) rfl _ _ rfl rfl rfl (nam2_in (a := (rows : Int)) (b := (r.1 : Int)) HQ2.out.B_le rfl rfl rfl).all ((Kp.alloc (fun _ => False) w2 (.cells #[.int .i64 (rows : Int), .int .i64 (r.1 : Int)] 3)).blk HZ2.out id) rfl ?_; intro w4 h4 k4; have H4 := hid h4; have K4 := hid (box_end (q := nam2 w2 { n0 with kind := 8, l := [(rows : Int), (r.1 : Int)] }) HR0.out (HK2.out.trans (Kp.alloc _ w2 (.cells #[.int .i64 (rows : Int), .int .i64 (r.1 : Int)] 3))) (HQ2.out.on ((Below.refl _ _).alloc (Nat.le_refl _) _)) HA2.out HSz.out (Nat.le_refl _) ((Kp.alloc (fun _ => False) w2 (.cells #[.int .i64 (rows : Int), .int .i64 (r.1 : Int)] 3)).blk HZ2.out id) k4 (nam2_in HQ2.out.B_le rfl rfl rfl)); clear h4 k4))
  exact ret_nd rfl rfl H4.out rfl rfl ⟨K4.out.1, .inr ⟨({ n0 with kind := 8, l := [(rows : Int), (r.1 : Int)] }, r.2), j, _, sv2, qs2, by simp only [joinS, HR2.out, Rs.and], rfl, ⟨_, rfl, rfl, K4.out.2.2.1⟩, K4.out.2.1, HM2.out, K4.out.2.2.2⟩⟩
end
end Go.Proofs.YtomnjckbgmbgmaaGreatDoor
