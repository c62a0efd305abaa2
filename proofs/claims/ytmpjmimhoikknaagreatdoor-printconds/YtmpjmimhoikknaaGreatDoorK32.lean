/-
  Print's text of words.
  Print's Print and Cond.
  Of what a text is read as, print has room for all words.
-/
import Derived.Test.YtmpjmimhoikknaaGreatDoorK29
import Derived.Test.YtmpjmimhoikknaaGreatDoorK31
import Derived.Lib.AppendStr
namespace Go.Proofs.YtmpjmimhoikknaaGreatDoor
open Go.RowKit Go.Joins

def sepT (p : Option (List UInt8)) (s : List UInt8) : List UInt8 := match p with
  | none => []
  | some p => if p = wOpen ∨ s = wShut ∨ s = wComma then [] else [32]
def jw : Option (List UInt8) → List (List UInt8) → List UInt8
  | _, [] => []
  | p, s :: r => sepT p s ++ s ++ jw (some s) r
def textO (ws : List (List UInt8)) : List UInt8 × Int := if 2048 < (jw none ws).length then ([], 2) else (jw none ws, 0)
theorem jw_snoc (s : List UInt8) : ∀ (a : List (List UInt8)) (p : Option (List UInt8)), jw p (a ++ [s]) = jw p a ++ sepT (if a = [] then p else a.getLast?) s ++ s
  | [], p => by simp [jw]
  | x :: r, p => by
    have ih := jw_snoc s r (some x)
    show sepT p x ++ x ++ jw (some x) (r ++ [s]) = _
    rw [ih]
    by_cases hr : r = []
    · subst hr; simp [jw]
    · show _ = sepT p x ++ x ++ jw (some x) r ++ _ ++ s
      rw [if_neg hr, if_neg (by simp)]
      have : (x :: r).getLast? = r.getLast? := by
        cases r with
        | nil => exact absurd rfl hr
        | cons a b => rfl
      rw [this]
      simp
theorem jw_take {ws : List (List UInt8)} {k : Nat} {s : List UInt8} (h : ws[k]? = some s) : jw none (ws.take (k + 1)) = jw none (ws.take k) ++ sepT (if k = 0 then none else ws[k - 1]?) s ++ s := by
  have hk := (List.getElem?_eq_some_iff.1 h).1
  rw [List.take_add_one, h]
  show jw none (ws.take k ++ [s]) = _
  rw [jw_snoc]
  congr 2
  by_cases h0 : k = 0
  · subst h0; simp
  · rw [if_neg h0, if_neg (by intro e; have := congrArg List.length e; rw [List.length_take] at this; simp only [List.length_nil] at this; omega), List.getLast?_eq_getElem?, List.length_take, Nat.min_eq_left (by omega), List.getElem?_take_of_lt (by omega)]
theorem jw_le {ws : List (List UInt8)} (k : Nat) : (jw none (ws.take k)).length ≤ (jw none ws).length := by
  by_cases hk : k < ws.length
  · have : ∀ m, k + m ≤ ws.length → (jw none (ws.take k)).length ≤ (jw none (ws.take (k + m))).length := by
      intro m
      induction m with
      | zero => intro _; exact Nat.le_refl _
      | succ m ih =>
        intro hm
        have h2 := jw_take (ws := ws) (k := k + m) (List.getElem?_eq_getElem (by omega))
        rw [← Nat.add_assoc, h2, List.length_append, List.length_append]
        have := ih (by omega)
        omega
    have h2 := this (ws.length - k) (by omega)
    rwa [show k + (ws.length - k) = ws.length by omega, List.take_length] at h2
  · rw [List.take_of_length_le (by omega)]; exact Nat.le_refl _
theorem strV (s : List UInt8) : Lib.strCells (St s) = bytesV s := by
  simp [Lib.strCells, bytesV, St]
theorem appS1 {ops : Array Oper} {rest : List Oper} {o : Oper} {a : Act} {Q : Exit → Act → World → Prop} {w : World} {B : Nat} {l s : List UInt8} {v : Value}
    (hgd : o.guard = none) (sl x : Operand) (ho : o.op = .call { callee := .builtin .append, args := #[sl, x], argTypes := #[105, 9] })
    (hs : a.eval sl = v) (hown : w.ownsRow B 5 1 v l.length (bytesV l)) (hx : a.eval x = .string (St s)) (hn : l.length + s.length ≤ 4000000) (hB : B ≤ w.heap.size)
    (h : ∀ v' w', w'.ownsRow B 5 1 v' (l ++ s).length (bytesV (l ++ s)) → Below B w w' → wpList Tryz.prog ops Q rest (a.put o.dst v') w') : wpList Tryz.prog ops Q (o :: rest) a w := by
  obtain ⟨i0, hi, hz0, hz1, hz2⟩ := info_parts Tryz.info5
  have hsz := St_size s
  refine Lib.wpList_append_own_string w hgd sl x 105 9 ho B 5 i0 Tryz.underlying105 Tryz.underlying9 hi hz0 hz1 hz2 v l.length (bytesV l) hs hown (St s) hx (by unfold maxLen; omega) (by omega) hB ?_
  intro v' w' h1 h2 _
  refine h v' w' ?_ ((Below.refl B w).grown h2 hB (fun k e => (hown.lt k e).1))
  rw [strV, hsz] at h1
  rw [List.length_append]
  have : bytesV (l ++ s) = bytesV l ++ bytesV s := by simp [bytesV]
  rw [this]; exact h1
theorem St_eqX (l p : List UInt8) : ((St l).toList == p) = decide (l = p) := by
  rw [ByteArray.toList_eq, St_toList]
  by_cases h : l = p <;> simp [h]
theorem conv_any {w : World} {B : Nat} {v : Value} {l : List UInt8} (h : w.ownsRow B 5 1 v l.length (bytesV l)) : (convert 105 9 v).run Tryz.prog w = .ok (.string (St l)) w := by
  rcases ownsRow_forms h with ⟨rfl, h0⟩ | ⟨g, cap, rfl⟩
  · have : l = [] := List.eq_nil_of_length_eq_zero h0
    subst this
    exact run_convert_bytes_nil w 105 5 Tryz.underlying105 Tryz.underlying5 0 0 9 Tryz.underlying9
  · exact conv_own h
theorem own_form {w : World} {B e n : Nat} {v : Value} {xs : List Value} (h : w.ownsRow B e 1 v n xs) : ∃ p c, v = .slice p n c := by
  rcases ownsRow_forms h with ⟨rfl, h0⟩ | ⟨g, cap, rfl⟩
  · exact ⟨none, 0, by rw [h0]⟩
  · exact ⟨_, _, rfl⟩
section
variable {w : World} {v : Value} {ws : List (List UInt8)}
set_option maxRecDepth 100000 in
set_option maxHeartbeats 4000000 in
theorem ptext_any (hv : SlAt (fun b => b < w.heap.size) str1 1 w v ws) (hb : (jw none ws).length ≤ 3999999) : Calls Tryz.prog 35 #[v] w fun e w' => e = .returned (.tuple #[.string (St (textO ws).1), .int .i64 (textO ws).2]) ∧ Below w.heap.size w w' := by
  have HV := hid hv
  have HBd := hid hb
  obtain ⟨p, c, rfl, hc1, hc2⟩ := hv.form
  unfold maxLen at hc2
  clear hv hb
  generalize hnn : ws.length = n at *
  have HNn := hid hnn
  clear hnn
  go_enter Tryz.func35, Tryz.ntmps35
  go_upto_region 3 with fail
  go_loopw [4, 9] (fun u x wr => ∃ (k : Nat) (l : List UInt8), k ≤ n ∧ x = .int .i64 k ∧ Hid (l = jw none (ws.take k)) ∧ Hid (wr.ownsRow w.heap.size 5 1 u l.length (bytesV l)) ∧ Hid (Below w.heap.size w wr)) (fun _ x _ => n - (intOf x).toNat)
  case atStart => exact ⟨0, [], by omega, rfl, rfl, World.ownsRow_nil _ _ _ _, Below.refl _ _⟩
  case round =>
    obtain ⟨k, l, hk, rfl, HL, HO, HBr⟩ := hrel
    by_cases hlt : k < n
    · obtain ⟨s, hs⟩ : ∃ s, ws[k]? = some s := ⟨_, List.getElem?_eq_getElem (by have := HNn.out; omega)⟩
      obtain ⟨g, og, hpe, -, h1⟩ := (HV.out.bel HBr.out).at hs
      subst hpe
      have e1 : wr.cell? ⟨g, og + k, none⟩ = some (.string (St s)) := by have := h1 0 _ rfl; simpa using this
      have kI : (k : Int) < n := by omega
      have k0 : (0 : Int) ≤ k := by omega
      have HT := hid (jw_take hs)
      have HLe := hid (jw_le (ws := ws) (k + 1))
      have HI := hid hlt
      have hsz : w.heap.size ≤ wr.heap.size := HBr.out.size
      have q1 := St_eqX s [41]
      have q2 := St_eqX s [44]
      clear h1 hlt
      by_cases hz : k = 0
      · subst hz
        have HS : Hid (jw none (ws.take (0 + 1)) = l ++ s) := by show _ = _; rw [HT.out, HL.out, if_pos rfl]; simp [sepT]
        have HB2 : Hid (l.length + s.length ≤ 3999999) := by have h1 := HLe.out; have h2 := HBd.out; rw [HS.out, List.length_append] at h1; show _ ≤ _; omega
        clear HT hs
        rw [Nat.add_zero] at e1
        go_wp2_with (at_builtin; refine appS1 (s := s) rfl _ _ rfl rfl HO.out rfl (by have := HB2.out; omega) hsz ?_; intro v1 w1 ho1 hb1; have HO1 := hid ho1; have HB1 := hid (HBr.out.trans hb1); clear ho1 hb1)
        go_roundw
        case rel => exact ⟨0 + 1, l ++ s, by omega, by go_num, HS.out.symm, HO1.out, HB1.out⟩
        case measure => simp [intOf]; have := HI.out; omega
      · obtain ⟨pr, hpr⟩ : ∃ pr, ws[k - 1]? = some pr := ⟨_, List.getElem?_eq_getElem (by have := HNn.out; have := HI.out; omega)⟩
        obtain ⟨g', og', hpe, -, h2⟩ := (HV.out.bel HBr.out).at hpr
        cases hpe
        have e2 : wr.cell? ⟨g, og + (k - 1), none⟩ = some (.string (St pr)) := by have := h2 0 _ rfl; simpa using this
        have kp : (0 : Int) < k := by omega
        have km : (k : Int) - 1 = ((k - 1 : Nat) : Int) := by omega
        have km2 : ((k - 1 : Nat) : Int) < n := by omega
        have km3 : (0 : Int) ≤ ((k - 1 : Nat) : Int) := by omega
        have q0 := St_eqX pr [40]
        by_cases hsp : pr = wOpen ∨ s = wShut ∨ s = wComma
        · have HS : Hid (jw none (ws.take (k + 1)) = l ++ s) := by show _ = _; rw [HT.out, HL.out, if_neg hz, hpr]; simp only [sepT]; rw [if_pos hsp]; simp
          have HB2 : Hid (l.length + s.length ≤ 3999999) := by have h1 := HLe.out; have h2 := HBd.out; rw [HS.out, List.length_append] at h1; show _ ≤ _; omega
          have hcs : ((St pr).toList == [40]) = true ∨ (((St pr).toList == [40]) = false ∧ ((St s).toList == [41]) = true) ∨ (((St pr).toList == [40]) = false ∧ ((St s).toList == [41]) = false ∧ ((St s).toList == [44]) = true) := by
            rw [q0, q1, q2]
            by_cases h1 : pr = [40]
            · left; simp [h1]
            · by_cases h2 : s = [41]
              · right; left; simp [h1, h2]
              · rcases hsp with h | h | h
                · exact absurd h h1
                · exact absurd h h2
                · right; right; simp [h1, show s = [44] from h]
          clear HT hs hz hsp hpr h2 q0 q1 q2
          rcases hcs with c1 | ⟨c1, c2⟩ | ⟨c1, c2, c3⟩
          all_goals
            (go_wp2_with (at_builtin; refine appS1 (s := s) rfl _ _ rfl rfl HO.out rfl (by have := HB2.out; omega) hsz ?_; intro v1 w1 ho1 hb1; have HO1 := hid ho1; have HB1 := hid (HBr.out.trans hb1); clear ho1 hb1)
             go_roundw
             case rel => exact ⟨k + 1, l ++ s, by omega, by go_num, HS.out.symm, HO1.out, HB1.out⟩
             case measure => simp [intOf]; have := HI.out; omega)
        · have HS : Hid (jw none (ws.take (k + 1)) = (l ++ [32]) ++ s) := by show _ = _; rw [HT.out, HL.out, if_neg hz, hpr]; simp only [sepT]; rw [if_neg hsp]
          have HB2 : Hid (l.length + 1 + s.length ≤ 3999999) := by have h1 := HLe.out; have h2 := HBd.out; rw [HS.out, List.length_append, List.length_append] at h1; show _ ≤ _; simp only [List.length_cons, List.length_nil] at h1; omega
          have c1 : ((St pr).toList == [40]) = false := by rw [q0]; simp; exact fun e => hsp (.inl e)
          have c2 : ((St s).toList == [41]) = false := by rw [q1]; simp; exact fun e => hsp (.inr (.inl e))
          have c3 : ((St s).toList == [44]) = false := by rw [q2]; simp; exact fun e => hsp (.inr (.inr e))
          clear HT hs hz hsp hpr h2 q0 q1 q2
          go_wp2_with (first
            | (at_builtin; refine app2 rfl _ _ rfl rfl (HO.out.alloc _) rfl (alloc_cell _ _ _) rfl (by have := HB2.out; omega) (by go_size) ?_; intro v1 w1 ho1 hb1; have HO1 := hid (own_cast (n := l.length + 1) (m := (l ++ [32]).length) (ys := bytesV (l ++ [32])) ho1 (by simp) (by simp [bytesV])); have HB1 := hid ((HBr.out.alloc hsz _).trans hb1); clear ho1 hb1)
            | (at_builtin; refine appS1 (s := s) rfl _ _ rfl rfl HO1.out rfl (by have := HB2.out; simp; omega) HB1.out.size ?_; intro v2 w2 ho2 hb2; have HO2 := hid ho2; have HB3 := hid (HB1.out.trans hb2); clear ho2 hb2))
          go_roundw
          case rel => exact ⟨k + 1, (l ++ [32]) ++ s, by omega, by go_num, HS.out.symm, HO2.out, HB3.out⟩
          case measure => simp [intOf]; have := HI.out; omega
    · have kI : ¬ (k : Int) < n := by omega
      have HE : Hid (l = jw none ws) := by show _ = _; rw [HL.out, List.take_of_length_le (by have := HNn.out; omega)]
      have hcv := conv_any HO.out
      by_cases h2 : 2048 < l.length
      · have c1 : (2048 : Int) < l.length := by omega
        have HX : Hid (textO ws = ([], 2)) := by show _ = _; unfold textO; rw [← HE.out, if_pos h2]
        obtain ⟨pu, cu, rfl⟩ : ∃ p c, u4 = .slice p l.length c := own_form HO.out
        go_wp2_with fail
        refine bodyPost_ret (v := .tuple #[.string ⟨#[]⟩, .int .i64 2]) (by simp [results, Tryz.results35, go_sem]) rfl ?_
        exact ⟨by rw [HX.out]; rfl, HBr.out⟩
      · have c1 : ¬ (2048 : Int) < l.length := by omega
        have HX : Hid (textO ws = (l, 0)) := by show _ = _; unfold textO; rw [← HE.out, if_neg h2]
        obtain ⟨pu, cu, rfl⟩ : ∃ p c, u4 = .slice p l.length c := own_form HO.out
        go_wp2_with fail
        refine bodyPost_ret (v := .tuple #[.string (St l), .int .i64 0]) (by simp [results, Tryz.results35, go_sem]) rfl ?_
        exact ⟨by rw [HX.out], HBr.out⟩
end
end Go.Proofs.YtmpjmimhoikknaaGreatDoor
namespace Go.Proofs.YtmpjmimhoikknaaGreatDoor
open Go.RowKit Go.Joins

def printO (qs : List Nx) : List UInt8 × Int := if chkB qs then textO (wordsX qs) else ([], 120)
def condOk (qs : List Nx) (i : Int) : Bool := chkB qs && decide (0 ≤ i ∧ i < (qs.length : Int) ∧ 11 ≤ kindAt (qs.map xn) i.toNat)
def condO (qs : List Nx) (i : Int) : List UInt8 × Int := if condOk qs i then textO (wd (qs.map xn) (i.toNat + 1) i.toNat) else ([], 120)
section
variable {w : World} {v : Value} {qs : List Nx}
theorem chk_tree (h : chkB qs = true) : isTreeB (qs.map (·.np)) = true := by
  unfold chkB at h
  simp only [Bool.and_eq_true] at h
  exact h.1
set_option maxRecDepth 100000 in
set_option maxHeartbeats 2000000 in
theorem Print_any (h : Qx (fun b => b < w.heap.size) w v qs) (hG : Gq w) (hR : Room qs) (hJ : chkB qs = true → (jw none (wordsX qs)).length ≤ 3999999) : Calls Tryz.prog 13 #[.agg #[v]] w fun e w' => e = .returned (.tuple #[.string (St (printO qs).1), .int .i64 (printO qs).2]) ∧ Below w.heap.size w w' := by
  obtain ⟨p, cap, rfl, hc1, hc2⟩ := h.sl.form
  unfold maxLen at hc2
  have HB0 : Hid (Below w.heap.size w (w.alloc (.cells #[.slice p qs.length cap] 24))) := (Below.refl _ _).alloc (Nat.le_refl _) _
  have HZ0 := hid (alloc_block w (.cells #[.slice p qs.length cap] 24))
  generalize hW : w.alloc (.cells #[.slice p qs.length cap] 24) = w1 at *
  have HW := hid hW
  have HQ1 := hid (q_one HB0.out h)
  have HG1 := hid (hG.next HB0.out)
  have HR := hid hR
  have HJ := hid hJ
  have HCk := hid (Check_any HQ1.out HG1.out hR)
  have k1 := block_cell HZ0.out
  clear hW h hG hR hJ
  cases hc : chkB qs with
  | false =>
    have HO : Hid (printO qs = ([], 120)) := by show _ = _; unfold printO; rw [hc]; rfl
    have HCk2 : Hid (Calls Tryz.prog 17 #[.agg #[.slice p qs.length cap]] w1 fun e w' => e = .returned (.int .i64 120) ∧ Below w1.heap.size w1 w') := by have := HCk.out; rw [hc] at this; exact this
    clear hc HCk
    go_enter Tryz.func13, Tryz.ntmps13
    go_upto_region 1 with fail
    rw [HW.out]
    go_wp2_with (go_at_call 17; refine HCk2.out.mono ?_; rintro e w2 ⟨rfl, hb2⟩; have HB2 := hid (HB0.out.trans (hb2.mono HB0.out.size)); clear hb2)
    refine bodyPost_ret (v := .tuple #[.string ⟨#[]⟩, .int .i64 120]) (by simp [results, Tryz.results13, go_sem]) rfl ?_
    exact ⟨by rw [HO.out]; rfl, HB2.out⟩
  | true =>
    have HO : Hid (printO qs = textO (wordsX qs)) := by show _ = _; unfold printO; rw [hc]; rfl
    have HCk2 : Hid (Calls Tryz.prog 17 #[.agg #[.slice p qs.length cap]] w1 fun e w' => e = .returned (.int .i64 0) ∧ Below w1.heap.size w1 w') := by have := HCk.out; rw [hc] at this; exact this
    have ht := chk_tree hc
    have hne := isTree_ne ht
    rw [List.length_map] at hne
    have n1 : (1 : Int) ≤ qs.length := by omega
    have n2 : (qs.length : Int) - 1 = ((qs.length - 1 : Nat) : Int) := by omega
    have e1 : qs.length - 1 + 1 = qs.length := by omega
    have HLn := hid (HR.out.len ht (qs.length - 1) (by omega))
    rw [e1] at HLn
    have HJl := hid (HJ.out hc)
    have HWd : Hid (∀ W, Below w1.heap.size w1 W → Calls Tryz.prog 36 #[.slice p qs.length cap, .int .i64 ((qs.length - 1 : Nat) : Int)] W fun e w' => ∃ v, e = .returned v ∧ Own str1 1 9 W.heap.size w' v (wordsX qs) ∧ Below W.heap.size W w') := fun W hW => by
      have := words_any (i := qs.length - 1) (ahd_of ht) HR.out.ok (by omega) (q_one hW HQ1.out) (HG1.out.next hW) (by rw [e1]; have := HLn.out; omega)
      rwa [e1] at this
    clear hc HCk ht hne e1
    go_enter Tryz.func13, Tryz.ntmps13
    go_upto_region 1 with fail
    rw [HW.out]
    go_wp2_with (first
      | (go_at_call 17; refine HCk2.out.mono ?_; rintro e w2 ⟨rfl, hb2⟩; have HB2 := hid hb2; have k2 := block_cell (block_on HZ0.out hb2); clear hb2)
      | (go_at_call 36; refine (HWd.out w2 HB2.out).mono ?_; rintro e w3 ⟨v3, rfl, ho3, hb3⟩; have HB3 := hid (HB2.out.trans (hb3.mono HB2.out.size)); have HO3 := hid ((Own.sl ho3 (fun _ => rfl)).imp (fun b hb => hb.2)); clear ho3 hb3)
      | (go_at_call 35; refine (ptext_any HO3.out HJl.out).mono ?_; rintro e w4 ⟨rfl, hb4⟩; have HB4 := hid (HB0.out.trans ((HB3.out.trans (hb4.mono HB3.out.size)).mono HB0.out.size)); clear hb4))
    refine bodyPost_ret (v := .tuple #[.string (St (textO (wordsX qs)).1), .int .i64 (textO (wordsX qs)).2]) (by simp [results, Tryz.results13, go_sem]) rfl ?_
    exact ⟨by rw [HO.out], HB4.out⟩
set_option maxRecDepth 100000 in
set_option maxHeartbeats 4000000 in
theorem pCond_any (i : Int) (h : Qx (fun b => b < w.heap.size) w v qs) (hG : Gq w) (hR : Room qs) (hJ : condOk qs i = true → (jw none (wd (qs.map xn) (i.toNat + 1) i.toNat)).length ≤ 3999999) : Calls Tryz.prog 15 #[.agg #[v], .int .i64 i] w fun e w' => e = .returned (.tuple #[.string (St (condO qs i).1), .int .i64 (condO qs i).2]) ∧ Below w.heap.size w w' := by
  obtain ⟨p, cap, rfl, hc1, hc2⟩ := h.sl.form
  unfold maxLen at hc2
  have HB0 : Hid (Below w.heap.size w (w.alloc (.cells #[.slice p qs.length cap] 24))) := (Below.refl _ _).alloc (Nat.le_refl _) _
  have HZ0 := hid (alloc_block w (.cells #[.slice p qs.length cap] 24))
  generalize hW : w.alloc (.cells #[.slice p qs.length cap] 24) = w1 at *
  have HW := hid hW
  have HQ1 := hid (q_one HB0.out h)
  have HG1 := hid (hG.next HB0.out)
  have HR := hid hR
  have HJ := hid hJ
  have HCk := hid (Check_any HQ1.out HG1.out hR)
  have k1 := block_cell HZ0.out
  clear hW h hG hR hJ
  cases hc : chkB qs with
  | false =>
    have HO : Hid (condO qs i = ([], 120)) := by show _ = _; unfold condO condOk; rw [hc]; rfl
    have HCk2 : Hid (Calls Tryz.prog 17 #[.agg #[.slice p qs.length cap]] w1 fun e w' => e = .returned (.int .i64 120) ∧ Below w1.heap.size w1 w') := by have := HCk.out; rw [hc] at this; exact this
    clear hc HCk
    go_enter Tryz.func15, Tryz.ntmps15
    go_upto_region 1 with fail
    rw [HW.out]
    go_wp2_with (go_at_call 17; refine HCk2.out.mono ?_; rintro e w2 ⟨rfl, hb2⟩; have HB2 := hid (HB0.out.trans (hb2.mono HB0.out.size)); clear hb2)
    refine bodyPost_ret (v := .tuple #[.string ⟨#[]⟩, .int .i64 120]) (by simp [results, Tryz.results15, go_sem]) rfl ?_
    exact ⟨by rw [HO.out]; rfl, HB2.out⟩
  | true =>
    have HCk2 : Hid (Calls Tryz.prog 17 #[.agg #[.slice p qs.length cap]] w1 fun e w' => e = .returned (.int .i64 0) ∧ Below w1.heap.size w1 w') := by have := HCk.out; rw [hc] at this; exact this
    have ht := chk_tree hc
    by_cases h0 : i < 0
    · have HO : Hid (condO qs i = ([], 120)) := by show _ = _; unfold condO condOk; rw [hc, decide_eq_false (by omega)]; rfl
      clear hc HCk ht
      go_enter Tryz.func15, Tryz.ntmps15
      go_upto_region 1 with fail
      rw [HW.out]
      go_wp2_with (go_at_call 17; refine HCk2.out.mono ?_; rintro e w2 ⟨rfl, hb2⟩; have HB2 := hid (HB0.out.trans (hb2.mono HB0.out.size)); clear hb2)
      refine bodyPost_ret (v := .tuple #[.string ⟨#[]⟩, .int .i64 120]) (by simp [results, Tryz.results15, go_sem]) rfl ?_
      exact ⟨by rw [HO.out]; rfl, HB2.out⟩
    · by_cases h1 : (qs.length : Int) ≤ i
      · have HO : Hid (condO qs i = ([], 120)) := by show _ = _; unfold condO condOk; rw [hc, decide_eq_false (by omega)]; rfl
        clear hc HCk ht
        go_enter Tryz.func15, Tryz.ntmps15
        go_upto_region 1 with fail
        rw [HW.out]
        go_wp2_with (go_at_call 17; refine HCk2.out.mono ?_; rintro e w2 ⟨rfl, hb2⟩; have HB2 := hid (HB0.out.trans (hb2.mono HB0.out.size)); have k2 := block_cell (block_on HZ0.out hb2); clear hb2)
        refine bodyPost_ret (v := .tuple #[.string ⟨#[]⟩, .int .i64 120]) (by simp [results, Tryz.results15, go_sem]) rfl ?_
        exact ⟨by rw [HO.out]; rfl, HB2.out⟩
      · obtain ⟨n, rfl⟩ : ∃ n : Nat, i = n := ⟨i.toNat, by omega⟩
        have hn : n < qs.length := by omega
        obtain ⟨q, hq⟩ : ∃ q, qs[n]? = some q := ⟨_, List.getElem?_eq_getElem hn⟩
        have hka : kindAt (qs.map xn) (n : Int).toNat = q.np.kind := kindAt_of hq
        obtain ⟨g, og, hpe, -, hcl⟩ := HQ1.out.sl.at (j := n) hq
        subst hpe
        have HC0 : Hid (∀ W, Below w1.heap.size w1 W → W.cell? ⟨g, og + n * 19, none⟩ = some (.int .i64 q.np.kind)) := fun W hW => (hW.cell (p := ⟨g, og + n * 19, none⟩) (block_lt_of_cell (hcl 0 _ rfl))).trans (hcl 0 _ rfl)
        have n0 : (0 : Int) ≤ n := by omega
        have n1 : (n : Int) < qs.length := by omega
        by_cases hk : q.np.kind < 11
        · have HO : Hid (condO qs n = ([], 120)) := by show _ = _; unfold condO condOk; rw [hc, decide_eq_false (by rw [hka]; omega)]; rfl
          clear hc HCk ht h0 h1 hq hcl hka hn
          go_enter Tryz.func15, Tryz.ntmps15
          go_upto_region 1 with fail
          rw [HW.out]
          go_wp2_with (go_at_call 17; refine HCk2.out.mono ?_; rintro e w2 ⟨rfl, hb2⟩; have HB2 := hid (HB0.out.trans (hb2.mono HB0.out.size)); have k2 := block_cell (block_on HZ0.out hb2); have k3 := HC0.out w2 hb2; clear hb2)
          refine bodyPost_ret (v := .tuple #[.string ⟨#[]⟩, .int .i64 120]) (by simp [results, Tryz.results15, go_sem]) rfl ?_
          exact ⟨by rw [HO.out]; rfl, HB2.out⟩
        · have hok : condOk qs n = true := by unfold condOk; rw [hc, decide_eq_true (by rw [hka]; omega)]; rfl
          have HO : Hid (condO qs n = textO (wd (qs.map xn) (n + 1) n)) := by show _ = _; unfold condO; rw [hok]; rfl
          have HJl := hid (HJ.out hok)
          have HLn := hid (HR.out.len ht n hn)
          have HWd : Hid (∀ W, Below w1.heap.size w1 W → Calls Tryz.prog 36 #[.slice (some ⟨g, og, none⟩) qs.length cap, .int .i64 (n : Int)] W fun e w' => ∃ v, e = .returned v ∧ Own str1 1 9 W.heap.size w' v (wd (qs.map xn) (n + 1) n) ∧ Below W.heap.size W w') := fun W hW => words_any (i := n) (ahd_of ht) HR.out.ok hn (q_one hW HQ1.out) (HG1.out.next hW) (by have := HLn.out; omega)
          clear hc HCk ht h0 h1 hq hcl hka hn hok
          go_enter Tryz.func15, Tryz.ntmps15
          go_upto_region 1 with fail
          rw [HW.out]
          go_wp2_with (first
            | (go_at_call 17; refine HCk2.out.mono ?_; rintro e w2 ⟨rfl, hb2⟩; have HB2 := hid hb2; have k2 := block_cell (block_on HZ0.out hb2); have k3 := HC0.out w2 hb2; clear hb2)
            | (go_at_call 36; refine (HWd.out w2 HB2.out).mono ?_; rintro e w3 ⟨v3, rfl, ho3, hb3⟩; have HB3 := hid (HB2.out.trans (hb3.mono HB2.out.size)); have HO3 := hid ((Own.sl ho3 (fun _ => rfl)).imp (fun b hb => hb.2)); clear ho3 hb3)
            | (go_at_call 35; refine (ptext_any HO3.out HJl.out).mono ?_; rintro e w4 ⟨rfl, hb4⟩; have HB4 := hid (HB0.out.trans ((HB3.out.trans (hb4.mono HB3.out.size)).mono HB0.out.size)); clear hb4))
          refine bodyPost_ret (v := .tuple #[.string (St (textO (wd (qs.map xn) (n + 1) n)).1), .int .i64 (textO (wd (qs.map xn) (n + 1) n)).2]) (by simp [results, Tryz.results15, go_sem]) rfl ?_
          exact ⟨by rw [HO.out], HB4.out⟩
end
end Go.Proofs.YtmpjmimhoikknaaGreatDoor
namespace Go.Proofs.YtmpjmimhoikknaaGreatDoor

theorem emb_self (xs : List Xn) : Emb 0 xs xs := fun j y h => by rw [Nat.zero_add, h, shN_zero]
theorem wd_fuel {xs : List Xn} (hA : Ahd xs) {d d' j : Nat} (h1 : j < d) (h2 : j < d') (h3 : j < xs.length) : wd xs d' j = wd xs d j := by
  have := wd_emb (emb_self xs) hA d j d' h1 h3 (by omega)
  rwa [Nat.zero_add] at this
theorem bdW_ge (xs : List Xn) (p : Nat → List (List UInt8)) (j : Nat) (k : Int) : (p j).length ≤ (bdW xs p j k).length := by
  unfold bdW
  split
  · simp [inB]; omega
  · exact Nat.le_refl _
theorem node_ge {xs : List Xn} {p : Nat → List (List UInt8)} {n : Np} {vt : List UInt8} (hl : (n.l.length : Int) = belowN n.kind) {c : Nat} (hc : c < n.l.length) : (p (lAt n c)).length ≤ (nodeX xs p n vt).length := by
  have e2 : (n.kind = 2 ∨ n.kind = 7 ∨ n.kind = 8 ∨ n.kind = 11 ∨ n.kind = 12) → n.l.length = 2 := fun hh => by
    rcases hh with hh | hh | hh | hh | hh <;> (rw [hh] at hl; simp [belowN] at hl; omega)
  have e1 : (n.kind = 3 ∨ n.kind = 4 ∨ n.kind = 5 ∨ n.kind = 6 ∨ n.kind = 13) → n.l.length = 1 := fun hh => by
    rcases hh with hh | hh | hh | hh | hh <;> (rw [hh] at hl; simp [belowN] at hl; omega)
  have e0 : (n.kind = 1 ∨ n.kind = 14 ∨ n.kind = 15) → n.l.length = 0 := fun hh => by
    rcases hh with hh | hh | hh <;> (rw [hh] at hl; simp [belowN] at hl; rw [hl]; rfl)
  rcases below_kinds hl with hq | hq | hq | hq | hq | hq | hq | hq | hq | hq | hq | hq | hq
  · have := e0 (by omega); omega
  · have := e2 (by omega)
    rcases (show c = 0 ∨ c = 1 by omega) with rfl | rfl <;> (simp [nodeX, stepX, tailX, isCnd, hq] <;> omega)
  · have := e1 (by omega)
    obtain rfl : c = 0 := by omega
    simp [nodeX, stepX, tailX, isCnd, hq]
  · have := e1 (by omega)
    obtain rfl : c = 0 := by omega
    simp [nodeX, stepX, tailX, isCnd, hq]
  · have := e1 (by omega)
    obtain rfl : c = 0 := by omega
    simp [nodeX, stepX, tailX, isCnd, hq]
  · have := e1 (by omega)
    obtain rfl : c = 0 := by omega
    simp [nodeX, stepX, tailX, isCnd, hq]
  · have := e2 (by omega)
    rcases (show c = 0 ∨ c = 1 by omega) with rfl | rfl <;> (simp [nodeX, stepX, tailX, isCnd, hq, inB] <;> omega)
  · have := e2 (by omega)
    rcases (show c = 0 ∨ c = 1 by omega) with rfl | rfl <;> (simp [nodeX, stepX, tailX, isCnd, hq, inB] <;> omega)
  · have := e2 (by omega)
    have b0 := bdW_ge xs p (lAt n 0) (bindsN n.kind)
    have b1 := bdW_ge xs p (lAt n 1) (bindsN n.kind + 1)
    rw [hq] at b0 b1
    rcases (show c = 0 ∨ c = 1 by omega) with rfl | rfl <;> (simp [nodeX, condX, isCnd, hq]; omega)
  · have := e2 (by omega)
    have b0 := bdW_ge xs p (lAt n 0) (bindsN n.kind)
    have b1 := bdW_ge xs p (lAt n 1) (bindsN n.kind + 1)
    rw [hq] at b0 b1
    rcases (show c = 0 ∨ c = 1 by omega) with rfl | rfl <;> (simp [nodeX, condX, isCnd, hq]; omega)
  · have := e1 (by omega)
    have b0 := bdW_ge xs p (lAt n 0) 3
    obtain rfl : c = 0 := by omega
    simp [nodeX, condX, isCnd, hq]; omega
  · have := e0 (by omega); omega
  · have := e0 (by omega); omega
/- No node has more words than the last one. -/
theorem wd_top {ns : List Np} (hA : AhN ns) (hT : Tree 0 ns) : ∀ (m i : Nat), ns.length - 1 - i ≤ m → i < ns.length → (wd (ns.map xN) (i + 1) i).length ≤ (wq ns).length
  | 0, i, hm, hi => by
    have : i = ns.length - 1 := by omega
    subst this
    unfold wq
    rw [show ns.length - 1 + 1 = ns.length by omega]; exact Nat.le_refl _
  | m + 1, i, hm, hi => by
    by_cases he : i = ns.length - 1
    · exact wd_top hA hT 0 i (by omega) hi
    · have h1 := hT.one i (by omega) (by omega)
      have hmem : (i : Int) ∈ ents ns := List.count_pos_iff.1 (by omega)
      obtain ⟨x, hx, hxi⟩ := List.mem_flatMap.1 hmem
      obtain ⟨j, hj, rfl⟩ := List.getElem_of_mem hx
      have hxj : (ns.map xN)[j]? = some (xN ns[j]) := by rw [List.getElem?_map, List.getElem?_eq_getElem hj]; rfl
      obtain ⟨g1, g2⟩ := hA j _ hxj
      have g3 := g2 (i : Int) hxi
      obtain ⟨c, hc, hce⟩ := List.getElem_of_mem hxi
      have hla : lAt ns[j] c = i := by
        unfold lAt
        rw [List.getD_eq_getElem?_getD, List.getElem?_eq_getElem hc, hce]; rfl
      have h2 := node_ge (xs := ns.map xN) (p := wd (ns.map xN) j) (n := ns[j]) (vt := vtN ns[j]) g1 hc
      rw [hla] at h2
      have h3 : wd (ns.map xN) j i = wd (ns.map xN) (i + 1) i := wd_fuel hA (by omega) (by omega) (by rw [List.length_map]; exact hi)
      rw [h3] at h2
      have h4 : wd (ns.map xN) (j + 1) j = nodeX (ns.map xN) (wd (ns.map xN) j) ns[j] (vtN ns[j]) := wd_some hxj
      have h5 := wd_top hA hT m j (by omega) hj
      rw [h4] at h5
      omega
/- No word is long. -/
theorem kindL_len (k : Nat) : (kindL.getD k []).length ≤ 5 := by
  by_cases h : k < 13
  · have : ∀ k : Fin 13, (kindL.getD k.1 []).length ≤ 5 := by decide
    exact this ⟨k, h⟩
  · rw [List.getD_eq_getElem?_getD, List.getElem?_eq_none (by show kindL.length ≤ k; simp [kindL, stepW]; omega)]; simp
theorem wordL_len (t : List (List UInt8)) (ht : ∀ x ∈ t, x.length ≤ 5) (k : Int) : (wordL t k).length ≤ 5 := by
  unfold wordL
  split
  · rw [List.getD_eq_getElem?_getD]
    cases e : t[k.toNat]? with
    | none => simp
    | some x => exact ht x (List.mem_of_getElem? e)
  · simp
theorem sep_mem {P : List (List (List UInt8))} {s : List UInt8} (h : s ∈ sepL P) : s = wComma ∨ ∃ x ∈ P, s ∈ x := by
  induction P with
  | nil => cases h
  | cons a r ih =>
    cases r with
    | nil => exact .inr ⟨a, by simp, h⟩
    | cons b r =>
      rcases List.mem_append.1 h with h | h
      · exact .inr ⟨a, by simp, h⟩
      · rcases List.mem_cons.1 h with h | h
        · exact .inl h
        · rcases ih h with h | ⟨x, hx, hs⟩
          · exact .inl h
          · exact .inr ⟨x, by simp [hx], hs⟩
structure SOk (x : Xn) : Prop where
  n : NOk x.1
  v : x.2.length ≤ 2048
theorem itoa_le {n : Int} (h : In64 n) : (Lib.itoa n).length ≤ 2048 := by have := Lib.itoa_length_le n h.1 h.2; omega
theorem quoted_le {s : List UInt8} (h : s.length ≤ 64) : (quoted s).length ≤ 2048 := by rw [quoted_len]; have := (esc_le s).2; omega
theorem names_str {l : List (List UInt8)} (h : ∀ x ∈ l, x.length ≤ 2048) : ∀ s ∈ sepL (nameP l), s.length ≤ 2048 := fun s hs => by
  rcases sep_mem hs with rfl | ⟨x, hx, hs⟩
  · decide
  · obtain ⟨y, hy, rfl⟩ := List.mem_map.1 hx
    simp at hs; subst hs; exact h _ hy
theorem aggs_str {l : List (Int × List UInt8)} (h : ∀ x ∈ l, x.2.length ≤ 2048) : ∀ s ∈ sepL (aggP l), s.length ≤ 2048 := fun s hs => by
  have ha : ∀ k, (wordL aggL k).length ≤ 2048 := fun k => Nat.le_trans (wordL_len aggL (by decide) k) (by decide)
  rcases sep_mem hs with rfl | ⟨x, hx, hs⟩
  · decide
  · obtain ⟨y, hy, rfl⟩ := List.mem_map.1 hx
    unfold aggP1 at hs
    split at hs
    · simp at hs; subst hs; exact ha _
    · simp at hs
      rcases hs with rfl | rfl
      · exact ha _
      · exact h _ hy
theorem bd_str {xs : List Xn} {p : Nat → List (List UInt8)} (hp : ∀ j, ∀ s ∈ p j, s.length ≤ 2048) (j : Nat) (k : Int) : ∀ s ∈ bdW xs p j k, s.length ≤ 2048 := fun s hs => by
  unfold bdW at hs
  split at hs
  · simp only [inB, List.mem_append, List.mem_cons, List.not_mem_nil, or_false] at hs
    rcases hs with (rfl | hs) | rfl
    · decide
    · exact hp j s hs
    · decide
  · exact hp j s hs
theorem wd_str {xs : List Xn} (h : ∀ x ∈ xs, SOk x) : ∀ d i, ∀ s ∈ wd xs d i, s.length ≤ 2048
  | 0, _, s, hs => by cases hs
  | d + 1, i, s, hs => by
    have ih := wd_str h d
    cases e : xs[i]? with
    | none =>
      have : wd xs (d + 1) i = [] := by show (match xs[i]? with | none => [] | some x => nodeX xs (wd xs d) x.1 x.2) = _; rw [e]
      rw [this] at hs; cases hs
    | some x =>
      rw [wd_some e] at hs
      have hx := h x (List.mem_of_getElem? e)
      have hn := hx.n
      unfold nodeX at hs
      split at hs
      · unfold fetchW at hs
        rcases List.mem_append.1 hs with hs | hs
        · simp at hs
          rcases hs with rfl | rfl
          · decide
          · exact hn.s
        · split at hs
          · cases hs
          · simp at hs
            rcases hs with rfl | rfl | rfl | rfl
            · decide
            · exact itoa_le hn.f
            · decide
            · exact itoa_le hn.t
      · split at hs
        · unfold condX at hs
          split at hs
          · rcases List.mem_append.1 hs with hs | hs
            · rcases List.mem_append.1 hs with hs | hs
              · exact bd_str ih _ _ s hs
              · simp at hs; subst hs; have := kindL_len x.1.kind.toNat; rw [List.getD_eq_getElem?_getD] at this; omega
            · exact bd_str ih _ _ s hs
          · split at hs
            · rcases List.mem_append.1 hs with hs | hs
              · simp at hs; subst hs; decide
              · exact bd_str ih _ _ s hs
            · split at hs
              · simp at hs
                rcases hs with rfl | rfl | rfl
                · exact hn.s
                · exact Nat.le_trans (wordL_len howL (by decide) _) (by decide)
                · exact hx.v
              · simp at hs
                rcases hs with rfl | rfl | rfl
                · exact hn.s
                · decide
                · exact quoted_le hn.vs
        · unfold stepX at hs
          rcases List.mem_append.1 hs with hs | hs
          · rcases List.mem_append.1 hs with hs | hs
            · exact ih _ s hs
            · simp at hs
              rcases hs with rfl | rfl
              · decide
              · have := kindL_len x.1.kind.toNat; rw [List.getD_eq_getElem?_getD] at this; omega
          · unfold tailX at hs
            split at hs
            · exact ih _ s hs
            · split at hs
              · exact names_str hn.nm.2 s hs
              · split at hs
                · simp at hs; subst hs; exact itoa_le hn.n
                · split at hs
                  · rcases List.mem_append.1 hs with hs | hs
                    · rcases List.mem_append.1 hs with hs | hs
                      · exact names_str hn.nm.2 s hs
                      · simp at hs; subst hs; decide
                    · exact aggs_str hn.ag.2 s hs
                  · split at hs
                    · simp at hs
                      rcases hs with rfl | rfl | rfl
                      · exact itoa_le hn.n
                      · decide
                      · exact hn.s
                    · simp only [inB, List.mem_append, List.mem_cons, List.not_mem_nil, or_false] at hs
                      rcases hs with (rfl | hs) | rfl
                      · decide
                      · exact ih _ s hs
                      · decide
theorem jw_len {M : Nat} : ∀ (ws : List (List UInt8)) (p : Option (List UInt8)), (∀ s ∈ ws, s.length ≤ M) → (jw p ws).length ≤ ws.length * (M + 1)
  | [], _, _ => by simp [jw]
  | s :: r, p, h => by
    have h1 := h s (by simp)
    have h2 := jw_len r (some s) (fun x hx => h x (by simp [hx]))
    have h3 : (sepT p s).length ≤ 1 := by
      unfold sepT
      split
      · simp
      · split <;> simp
    show (sepT p s ++ s ++ jw (some s) r).length ≤ _
    simp only [List.length_append, List.length_cons, Nat.succ_mul]
    omega
theorem vtN_len {n : Np} (h : NOk n) : (vtN n).length ≤ 2048 := by
  unfold vtN
  split
  · rename_i hv
    unfold VN.textV
    split
    · exact itoa_le h.v
    · split
      · rw [St_toList, esc_same]
        have := (esc_le n.vs).2
        have := h.vs
        simp only [List.length_cons, List.length_append, List.length_nil]; omega
      · split
        · cases n.vn == 1 <;> decide
        · have := VN.txtTo_len (x := VN.nth8 0 0 0 0 0 0 0 0) (fun i hi => by
            rcases VN.lt8 hi with rfl | rfl | rfl | rfl | rfl | rfl | rfl | rfl <;> (show VN.In64 0; unfold VN.In64; decide)) 8 (Nat.le_refl _)
          simp only [List.length_append, List.length_cons, List.length_nil]; omega
  · simp
/- All of it, of what a text is read as. -/
structure Prs (qs : List Nx) (ns : List Np) : Prop where
  z : ∀ q ∈ qs, Zer q
  e : qs.map (·.np) = ns
  q : QQ 16 ns
  t : Tree 0 ns
  w : (wq ns).length ≤ 1024
  n : ns.length ≤ 128
theorem Prs.xn {qs : List Nx} {ns : List Np} (h : Prs qs ns) : qs.map xn = ns.map xN := by
  rw [← h.e, List.map_map]; exact List.map_congr_left (fun q hq => xn_zer (h.z q hq))
theorem Prs.len {qs : List Nx} {ns : List Np} (h : Prs qs ns) : qs.length = ns.length := by rw [← h.e, List.length_map]
theorem Prs.words {qs : List Nx} {ns : List Np} (h : Prs qs ns) {i : Nat} (hi : i < qs.length) : (wd (qs.map Go.Proofs.YtmpjmimhoikknaaGreatDoor.xn) (i + 1) i).length ≤ 1024 := by
  rw [h.xn]
  exact Nat.le_trans (wd_top h.q.ah h.t ns.length i (by omega) (by rw [← h.len]; exact hi)) h.w
theorem Prs.str {qs : List Nx} {ns : List Np} (h : Prs qs ns) (d i : Nat) : ∀ s ∈ wd (qs.map Go.Proofs.YtmpjmimhoikknaaGreatDoor.xn) d i, s.length ≤ 2048 := by
  rw [h.xn]
  refine wd_str (fun x hx => ?_) d i
  obtain ⟨n, hn, rfl⟩ := List.mem_map.1 hx
  exact ⟨h.q.nok n hn, vtN_len (h.q.nok n hn)⟩
theorem Prs.room {qs : List Nx} {ns : List Np} (h : Prs qs ns) : Room qs := by
  refine ⟨fun q hq => ?_, fun _ i hi => by have := h.words hi; omega, fun i s hs => by have := h.str _ _ s hs; omega⟩
  have hn : NOk q.np := h.q.nok q.np (by rw [← h.e]; exact List.mem_map.2 ⟨q, hq, rfl⟩)
  obtain ⟨h0, h1, h2, h3, h4, h5, h6, h7⟩ := h.z q hq
  refine ⟨hn.n, hn.f, hn.t, hn.v, fun i hi => ?_, by have := hn.vs; omega⟩
  rw [h0, h1, h2, h3, h4, h5, h6, h7]
  rcases VN.lt8 hi with rfl | rfl | rfl | rfl | rfl | rfl | rfl | rfl <;> (show VN.In64 0; unfold VN.In64; decide)
theorem Prs.jw {qs : List Nx} {ns : List Np} (h : Prs qs ns) {i : Nat} (hi : i < qs.length) : (Go.Proofs.YtmpjmimhoikknaaGreatDoor.jw none (wd (qs.map Go.Proofs.YtmpjmimhoikknaaGreatDoor.xn) (i + 1) i)).length ≤ 3999999 := by
  have h1 := jw_len (M := 2048) _ none (h.str (i + 1) i)
  have h2 := h.words hi
  have h3 : (wd (qs.map Go.Proofs.YtmpjmimhoikknaaGreatDoor.xn) (i + 1) i).length * (2048 + 1) ≤ 1024 * (2048 + 1) := Nat.mul_le_mul_right _ h2
  omega
theorem Prs.wordsX {qs : List Nx} {ns : List Np} (h : Prs qs ns) : Go.Proofs.YtmpjmimhoikknaaGreatDoor.wordsX qs = wd (qs.map Go.Proofs.YtmpjmimhoikknaaGreatDoor.xn) (qs.length - 1 + 1) (qs.length - 1) := by
  unfold Go.Proofs.YtmpjmimhoikknaaGreatDoor.wordsX
  have := h.q.ne
  rw [show qs.length - 1 + 1 = qs.length by have := h.len; omega]
theorem prs_of {l : List UInt8} (h : (queryO l).2.2 = 0) {qs : List Nx} (hz : ∀ q ∈ qs, Zer q) (he : qs.map (·.np) = (queryO l).1) : Prs qs (queryO l).1 ∧ chkB qs = true := by
  obtain ⟨tks, a, e1, e2, e3⟩ := queryO_ok h
  obtain ⟨r, j, h1, h2, h3⟩ := whole_ok (p := queryS (tks.map tp) 16) (fun i c e => query_bd _ 16 0 [] i c e) e2
  have hs := whole_small e2 h1
  have hT := lex_tokok e1 hs.1
  obtain ⟨hq, hl, hn⟩ := parse_qq hT e2
  obtain ⟨htr, -⟩ := parse_tree e2
  rw [← e3] at hq hl hn htr
  refine ⟨⟨hz, he, hq, htr, hl, hn⟩, ?_⟩
  rw [e3] at he
  exact (chk_parsed hT e2 hz he).1
end Go.Proofs.YtmpjmimhoikknaaGreatDoor
