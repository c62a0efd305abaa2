/-
  What the reference's Put returns: its parts.
  append of bytes as one step of a region that draws its order.
  What the reference's Put returns: a text.
  What the reference's Put returns, for every valid value.
-/
import Derived.Test.YtjfholofgohcjaaPF
import Derived.Test.YtjfholofgohcjaaPJ
import Derived.Test.YtjfholofgohcjaaPL
import Derived.Deep.RegionHeld3
import Derived.Deep.RegionLaw
import Derived.Lib.ConvBytes
import Derived.Deep.RegionHeldLaw
namespace Go.Proofs.Ytjfholofgohcjaa
open Go.RowKit Go.Sort Go.Shelf

theorem box_nth (x : Vl) (k : Nat) (hk : k < 8) : (vcl x)[3 + k]? = some (.int .i64 (nth8 x.h0 x.h1 x.h2 x.h3 x.h4 x.h5 x.h6 x.h7 k)) := by
  rcases lt8 hk with rfl | rfl | rfl | rfl | rfl | rfl | rfl | rfl <;> rfl
theorem rput_bad {v : Value} {x : Vl} {w : World} (h : validL x = false) :
    Calls Try.prog 22 #[v, x.val] w fun e w' => e = .returned (.tuple #[.slice none 0 0, .int .i64 10]) ∧ Below w.heap.size w w' := by
  have HV := hid h
  clear h
  have HB := hid ((Below.refl w.heap.size w).alloc (Nat.le_refl _) (.cells (vcl x) 44))
  go_enter Try.func22, Try.ntmps22
  go_wp2_with (first
    | (go_at_call 50; refine (rvalid_is HV.out).mono ?_; rintro e w1 ⟨rfl, hb1⟩; have HB1 := hid (below_on HB.out hb1); clear hb1))
  exact bodyPost_ret (v := .tuple #[.slice none 0 0, .int .i64 10]) (by simp [results, Try.results22, go_sem]) rfl ⟨rfl, HB1.out⟩
set_option maxRecDepth 100000 in
set_option maxHeartbeats 1000000 in
theorem rput_1 {v : Value} {xs : List UInt8} {x : Vl} {w : World} (hv : BAt w v xs) (h : validL x = true) (hl : xs.length + 200 ≤ 140737488355328) (h1 : x.k = 1) :
    Calls Try.prog 22 #[v, x.val] w fun e w' => ∃ v', e = .returned (.tuple #[v', .int .i64 0]) ∧ OwnB w.heap.size w' v' (xs ++ valB x) ∧ Below w.heap.size w w' := by
  have HV := hid h
  have HX := hid hv
  have HL := hid hl
  clear h hl
  obtain ⟨p, cap, rfl, -⟩ := hv
  have HB := hid ((Below.refl w.heap.size w).alloc (Nat.le_refl _) (.cells (vcl x) 44))
  have KB := hid (alloc_block w (.cells (vcl x) 44))
  have e1 : (x.k == 1) = true := by simpa using h1
  have H1 := hid (valB_1 h1)
  clear h1
  have M1 : Hid True := trivial
  go_enter Try.func22, Try.ntmps22
  go_wp2_with (first
    | (go_at_call 50; refine (rvalid_is HV.out).mono ?_; rintro e w1 ⟨rfl, hb1⟩; have HB1 := hid (below_on HB.out hb1); have KB1 := hid (block_on KB.out hb1); clear hb1)
    | (at_builtin; have FIRST := M1; refine appF_any rfl _ _ rfl rfl (OwnB.made w1.heap.size w1 (Nat.le_refl _)) rfl (HX.out.on (HB1.out.alloc HB1.out.size _)) (by have := HL.out; simp; omega) (by simp) ?_; intro v2 w2 hown2 hf2; rw [List.nil_append] at hown2; have HO2 := hid hown2; have S2 := hid (((Below.refl _ w1).alloc (Nat.le_refl _) (.cells #[] 5)).trans hf2.low); have kb2 := block_cell (block_on KB1.out S2.out); have LB2 := hid (lt_of_block (block_on KB1.out S2.out)); clear hown2 hf2 M1 FIRST)
    | (go_at_call 63; refine (rbig_any (width := 8) HO2.out (by decide) S2.out.size (by have := HL.out; omega)).mono ?_; rintro e w3 ⟨v3, rfl, hown3, hf3⟩; have HO3 := hid hown3; have HF3 := hid hf3; obtain ⟨p3, c3, rfl⟩ := hown3.form; clear hown3 hf3))
  exact bodyPost_ret (v := .tuple #[.slice p3 (xs ++ bigB x.n 8).length c3, .int .i64 0]) (by simp [results, Try.results22, go_sem]) rfl ⟨_, rfl, by rw [H1.out]; exact HO3.out.le HB1.out.size, HB1.out.trans ((S2.out.trans HF3.out.low).mono HB1.out.size)⟩
set_option maxRecDepth 100000 in
set_option maxHeartbeats 1000000 in
theorem rput_3 {v : Value} {xs : List UInt8} {x : Vl} {w : World} (hv : BAt w v xs) (h : validL x = true) (hl : xs.length + 200 ≤ 140737488355328) (h3 : x.k = 3) :
    Calls Try.prog 22 #[v, x.val] w fun e w' => ∃ v', e = .returned (.tuple #[v', .int .i64 0]) ∧ OwnB w.heap.size w' v' (xs ++ valB x) ∧ Below w.heap.size w w' := by
  have HV := hid h
  have HX := hid hv
  have HL := hid hl
  clear h hl
  obtain ⟨p, cap, rfl, -⟩ := hv
  have HB := hid ((Below.refl w.heap.size w).alloc (Nat.le_refl _) (.cells (vcl x) 44))
  have KB := hid (alloc_block w (.cells (vcl x) 44))
  have e1 : (x.k == 1) = false := by simp [h3]
  have e2 : (x.k == 2) = false := by simp [h3]
  have e3 : (x.k == 3) = true := by simpa using h3
  have H1 := hid (valB_3 h3)
  have HD := hid (dig_nat x.n 0)
  clear h3
  have M1 : Hid True := trivial
  go_enter Try.func22, Try.ntmps22
  go_wp2_with (first
    | (go_at_call 50; refine (rvalid_is HV.out).mono ?_; rintro e w1 ⟨rfl, hb1⟩; have HB1 := hid (below_on HB.out hb1); have KB1 := hid (block_on KB.out hb1); clear hb1)
    | (at_builtin; have FIRST := M1; refine appF_any rfl _ _ rfl rfl (OwnB.made w1.heap.size w1 (Nat.le_refl _)) rfl (HX.out.on (HB1.out.alloc HB1.out.size _)) (by have := HL.out; simp; omega) (by simp) ?_; intro v2 w2 hown2 hf2; rw [List.nil_append] at hown2; have HO2 := hid hown2; have S2 := hid (((Below.refl _ w1).alloc (Nat.le_refl _) (.cells #[] 5)).trans hf2.low); have kb2 := block_cell (block_on KB1.out S2.out); have LB2 := hid (lt_of_block (block_on KB1.out S2.out)); clear hown2 hf2 M1 FIRST)
    | (at_builtin; refine appF_any rfl _ _ rfl rfl (HO2.out.alloc _) rfl (bat_one (x := dig x.n 0) (by rw [HD.out]; simp)) (by have := HL.out; simp; omega) (by have := S2.out.size; rw [World.size_alloc]; omega) ?_; intro v3 w3 hown3 hf3; have HO3 := hid hown3; have HF3 := hid (((Fr.refl w1.heap.size w2).alloc S2.out.size _).trans hf3); obtain ⟨p3, c3, rfl⟩ := hown3.form; clear hown3 hf3))
  exact bodyPost_ret (v := .tuple #[.slice p3 (xs ++ [dig x.n 0]).length c3, .int .i64 0]) (by simp [results, Try.results22, go_sem]) rfl ⟨_, rfl, by rw [H1.out]; exact HO3.out.le HB1.out.size, HB1.out.trans ((S2.out.trans HF3.out.low).mono HB1.out.size)⟩
set_option maxRecDepth 100000 in
set_option maxHeartbeats 1000000 in
theorem rput_4 {v : Value} {xs : List UInt8} {x : Vl} {w : World} (hv : BAt w v xs) (h : validL x = true) (hl : xs.length + 200 ≤ 140737488355328) (h1 : ¬ x.k = 1) (h2 : ¬ x.k = 2) (h3 : ¬ x.k = 3) :
    Calls Try.prog 22 #[v, x.val] w fun e w' => ∃ v', e = .returned (.tuple #[v', .int .i64 0]) ∧ OwnB w.heap.size w' v' (xs ++ valB x) ∧ Below w.heap.size w w' := by
  have HV := hid h
  have HX := hid hv
  have HL := hid hl
  clear h hl
  obtain ⟨p, cap, rfl, -⟩ := hv
  have HB := hid ((Below.refl w.heap.size w).alloc (Nat.le_refl _) (.cells (vcl x) 44))
  have KB := hid (alloc_block w (.cells (vcl x) 44))
  have e1 : (x.k == 1) = false := by simpa using h1
  have e2 : (x.k == 2) = false := by simpa using h2
  have e3 : (x.k == 3) = false := by simpa using h3
  have H1 := hid (valB_4 h1 h2 h3)
  clear h1 h2 h3
  have M1 : Hid True := trivial
  go_enter Try.func22, Try.ntmps22
  go_wp2_with (first
    | (go_at_call 50; refine (rvalid_is HV.out).mono ?_; rintro e w1 ⟨rfl, hb1⟩; have HB1 := hid (below_on HB.out hb1); have KB1 := hid (block_on KB.out hb1); clear hb1)
    | (at_builtin; have FIRST := M1; refine appF_any rfl _ _ rfl rfl (OwnB.made w1.heap.size w1 (Nat.le_refl _)) rfl (HX.out.on (HB1.out.alloc HB1.out.size _)) (by have := HL.out; simp; omega) (by simp) ?_; intro v2 w2 hown2 hf2; rw [List.nil_append] at hown2; have HO2 := hid hown2; have S2 := hid (((Below.refl _ w1).alloc (Nat.le_refl _) (.cells #[] 5)).trans hf2.low); have kb2 := block_cell (block_on KB1.out S2.out); have LB2 := hid (lt_of_block (block_on KB1.out S2.out)); clear hown2 hf2 M1 FIRST))
  go_loopw [6, 7] (fun b i wr => ∃ k : Nat, k ≤ 8 ∧ i = .int .i64 k ∧ Hid (OwnB w1.heap.size wr b (xs ++ hisB (List.take k [x.h0, x.h1, x.h2, x.h3, x.h4, x.h5, x.h6, x.h7]))) ∧ Hid (Fr w1.heap.size w2 wr)) (fun _ i _ => 8 - (intOf i).toNat)
  case atStart => exact ⟨0, by omega, rfl, by simp only [List.take_zero, hisB, List.flatMap_nil, List.append_nil]; exact HO2.out, Fr.refl _ _⟩
  case round =>
    obtain ⟨k, hk, rfl, HO, HBw⟩ := hrel
    by_cases hlt : k < 8
    · have hlen : (xs ++ hisB (List.take k [x.h0, x.h1, x.h2, x.h3, x.h4, x.h5, x.h6, x.h7])).length + 8 ≤ 140737488355328 := by
        have := HL.out; rw [List.length_append, hisB_len, List.length_take]; simp only [List.length_cons, List.length_nil]; omega
      have HLEN := hid hlen
      clear hlen
      have hsz : w1.heap.size ≤ wr.heap.size := Nat.le_trans S2.out.size HBw.out.size
      have HT := hid (his_take x.h0 x.h1 x.h2 x.h3 x.h4 x.h5 x.h6 x.h7 k hlt)
      have kbw := block_cell (HBw.out.k5 _ _ _ _ (block_on KB1.out S2.out) (by decide))
      have hidx := box_nth x k hlt
      generalize nth8 x.h0 x.h1 x.h2 x.h3 x.h4 x.h5 x.h6 x.h7 k = z at *
      clear kb2
      have kbz := (kbw (3 + k)).trans hidx
      clear kbw hidx
      go_wp2_with (first
        | (go_at_call 63; refine (rbig_any (width := 8) HO.out (by decide) hsz HLEN.out).mono ?_; rintro e w3 ⟨v3, rfl, hown1, hb1⟩))
      go_roundw
      case rel => exact ⟨k + 1, by omega, by go_num, by rw [List.append_assoc, ← HT.out] at hown1; exact hown1, HBw.out.trans hb1⟩
      case measure => simp [intOf]; omega
    · obtain rfl : k = 8 := by omega
      have ho := HO.out
      obtain ⟨p3, c3, rfl⟩ := ho.form
      have HO3 := hid ho
      clear ho
      go_wp2
      exact bodyPost_ret (v := .tuple #[.slice p3 (xs ++ hisB (List.take 8 [x.h0, x.h1, x.h2, x.h3, x.h4, x.h5, x.h6, x.h7])).length c3, .int .i64 0]) (by simp [results, Try.results22, go_sem]) rfl ⟨_, rfl, by rw [H1.out]; exact HO3.out.le HB1.out.size, HB1.out.trans ((S2.out.trans HBw.out.low).mono HB1.out.size)⟩
end Go.Proofs.Ytjfholofgohcjaa
namespace Go.Proofs.Ytjfholofgohcjaa
open Go.RowKit Go.Sort

theorem step_appF {ops : Array Oper} {o : Oper} {a : Act} {w : World} {K : Act → World → Prop} {Q : Exit → Act → World → Prop} {E : Prop} {B : Nat} {xs ys : List UInt8} {v y : Value}
    (hgd : o.guard = none) (s x : Operand) (ho : o.op = .call { callee := .builtin .append, args := #[s, x], argTypes := #[41, 41] })
    (hs : a.eval s = v) (hx : a.eval x = y) (hown : OwnB B w v xs) (hu : BAt w y ys) (hb : xs.length + ys.length ≤ 140737488355328) (hB : B ≤ w.heap.size)
    (h : ∀ v' w', OwnB B w' v' (xs ++ ys) → Fr B w w' → K (a.put o.dst v') w') : if Region.wanted o (yielded ops a.tmps) = true then Oper.wp Try.prog o a w K Q else E := by
  have hw : Region.wanted o (yielded ops a.tmps) = true := by simp [Region.wanted, hgd]
  rw [if_pos hw]
  obtain ⟨i0, hi, hz0, hz1, hz2⟩ := info_parts info5
  obtain ⟨p, cap, rfl, hcap, hnone, hmax, hy⟩ := hu
  cases p with
  | none =>
    have hn : ys = [] := by
      cases ys with
      | nil => rfl
      | cons y r => obtain ⟨b, hp, _⟩ := hy (by simp); cases hp
    subst hn
    have hc := hnone rfl
    subst hc
    have hrun := run_append_owned_none (P := Try.prog) (w := w) B 41 o.type 5 i0 1 Try.underlying41 hi v xs.length _ hown
    have hx' : a.eval x = .slice none 0 0 := by rw [hx]; rfl
    unfold Oper.wp
    simp [execOp, ho, resolve, invoke, builtin, hs, hx', hrun, Result.andThen]
    exact h v w (by rw [List.append_nil]; exact hown) (Fr.refl _ _)
  | some ad =>
    refine wp_append_own w s x 41 ho B 5 i0 (.int .u8 0) 1 1 Try.underlying41 hi hz0 hz1 hz2 rfl (by omega) v xs.length _ hs hown ad ys.length cap (ys.map bc) hx (by simp) ?_ ?_ ?_ (by omega) hB ?_
    · intro j c hj
      have hne : ys ≠ [] := by intro e; subst e; simp at hj
      obtain ⟨b, hp, hcell⟩ := hy hne
      cases hp
      rw [List.getElem?_map] at hj
      cases hyj : ys[j]? with
      | none => rw [hyj] at hj; cases hj
      | some x => rw [hyj] at hj; cases hj; exact hcell j x hyj
    · intro c hc
      obtain ⟨y, _, rfl⟩ := List.mem_map.1 hc
      rfl
    · unfold maxLen; omega
    · intro v' w' h2 h3 _
      refine h v' w' ?_ (fr_grown hown h3 hB)
      show w'.ownsRow B 5 1 v' (xs ++ ys).length ((xs ++ ys).map bc)
      rw [List.length_append, List.map_append]; exact h2
end Go.Proofs.Ytjfholofgohcjaa
namespace Go.Proofs.Ytjfholofgohcjaa
open Go.RowKit Go.Sort Go.Shelf

theorem wrap_dig (n : Int) : IntKind.u8.wrap n = ((dig n 0).toNat : Int) := by
  rw [dig_nat]
  first
    | (simp [IntKind.wrap]; done)
    | (simp [IntKind.wrap, IntKind.bits, IntKind.signed]; done)
    | (unfold IntKind.wrap; simp; done)
    | (have := n; go_num)
    | rfl
theorem below_bw (w : World) (e : TypeId) (s : ByteArray) : Below w.heap.size w (Lib.bytesWorld w e s) :=
  ⟨rfl, rfl, rfl, by rw [Lib.bytesWorld_size]; omega, fun k hk => Lib.bytesWorld_at_old w e s k hk⟩
theorem add_at (b j : Nat) : (⟨b, 0, none⟩ : Addr).add j = ⟨b, j, none⟩ := by
  unfold Addr.add
  split
  · rename_i h; subst h; rfl
  · simp
theorem bytes_len (s : ByteArray) : s.data.toList.length = s.size := by rw [Array.length_toList]; rfl
theorem bw_bat (w : World) (s : ByteArray) (h : s.size ≤ maxLen) : BAt (Lib.bytesWorld w 5 s) (.slice (some ⟨w.heap.size, 0, none⟩) s.size (grownCap w s.size 0 5)) s.data.toList := by
  refine ⟨some ⟨w.heap.size, 0, none⟩, grownCap w s.size 0 5, by rw [bytes_len], by rw [bytes_len]; exact grownCap_ge w s.size 0 5, (fun e => by cases e), grownCap_le_maxLen w s.size 0 5 h, fun _ => ⟨_, rfl, fun j x hj => ?_⟩⟩
  have hlt : j < s.size := by have := (List.getElem?_eq_some_iff.1 hj).1; rwa [bytes_len] at this
  have hc := Lib.bytesWorld_cell w 5 s j hlt
  have e : s.data.toList.getD j 0 = x := by rw [List.getD_eq_getElem?_getD, hj]; rfl
  rw [e] at hc
  rw [add_at]
  exact hc
theorem bat_grown {w w' : World} {c n cap : Nat} {row : Option Nat} {ys : List UInt8} (h : BAt w (.slice (some ⟨c, 0, none⟩) n cap) ys) (hg : w.grownBy w' row) (hlt : c < w.heap.size) (hne : some c ≠ row) : BAt w' (.slice (some ⟨c, 0, none⟩) n cap) ys := by
  obtain ⟨p, cap', hv, h1, h2, h3, hx⟩ := h
  refine ⟨p, cap', hv, h1, h2, h3, fun hne' => ?_⟩
  obtain ⟨a, ha, hc⟩ := hx hne'
  refine ⟨a, ha, fun j x hj => ?_⟩
  injection hv with e1
  rw [ha] at e1
  injection e1 with e1
  subst e1
  have this := hc j x hj
  have hb := hg.block c hlt hne
  rw [add_at] at this ⊢
  unfold World.cell? at this ⊢
  rw [hb]
  exact this
theorem step_appG {ops : Array Oper} {o : Oper} {a : Act} {w : World} {K : Act → World → Prop} {Q : Exit → Act → World → Prop} {E : Prop} {B : Nat} {xs ys : List UInt8} {v y : Value}
    (hgd : o.guard = none) (s x : Operand) (ho : o.op = .call { callee := .builtin .append, args := #[s, x], argTypes := #[41, 41] })
    (hs : a.eval s = v) (hx : a.eval x = y) (hown : OwnB B w v xs) (hu : BAt w y ys) (hne : ys ≠ []) (hb : xs.length + ys.length ≤ 140737488355328) (hB : B ≤ w.heap.size)
    (h : ∀ v' w', OwnB B w' v' (xs ++ ys) → Fr B w w' → w.grownBy w' v.ownBlock → K (a.put o.dst v') w') : if Region.wanted o (yielded ops a.tmps) = true then Oper.wp Try.prog o a w K Q else E := by
  have hw : Region.wanted o (yielded ops a.tmps) = true := by simp [Region.wanted, hgd]
  rw [if_pos hw]
  obtain ⟨i0, hi, hz0, hz1, hz2⟩ := info_parts info5
  obtain ⟨p, cap, rfl, hcap, hnone, hmax, hy⟩ := hu
  obtain ⟨ad, rfl, hcell⟩ := hy hne
  refine wp_append_own w s x 41 ho B 5 i0 (.int .u8 0) 1 1 Try.underlying41 hi hz0 hz1 hz2 rfl (by omega) v xs.length _ hs hown ad ys.length cap (ys.map bc) hx (by simp) ?_ ?_ ?_ (by omega) hB ?_
  · intro j c hj
    rw [List.getElem?_map] at hj
    cases hyj : ys[j]? with
    | none => rw [hyj] at hj; cases hj
    | some x => rw [hyj] at hj; cases hj; exact hcell j x hyj
  · intro c hc
    obtain ⟨y, _, rfl⟩ := List.mem_map.1 hc
    rfl
  · unfold maxLen; omega
  · intro v' w' h2 h3 _
    refine h v' w' ?_ (fr_grown hown h3 hB) h3
    show w'.ownsRow B 5 1 v' (xs ++ ys).length ((xs ++ ys).map bc)
    rw [List.length_append, List.map_append]; exact h2
theorem blk_up' {w : World} {b : Nat} {o : Obj} (h : w.heap[b]? = some o) (x : Obj) : (w.alloc x).heap[b]? = some o := block_on h ((Below.refl _ _).alloc (Nat.le_refl _) x)
abbrev BK2 (b : Nat) (x : Vl) (w : World) : Prop := w.heap[b]? = some (.cells (vcl x) 44) ∧ w.cell? ⟨b, 2, none⟩ = some (.string x.s)
theorem tBox {w : World} {b : Nat} {x : Vl} (h : w.heap[b]? = some (.cells (vcl x) 44)) : BK2 b x w := ⟨h, (block_cell h 2).trans rfl⟩
theorem tBoxA {w : World} {b : Nat} {x : Vl} (h : BK2 b x w) (o : Obj) : BK2 b x (w.alloc o) := tBox (blk_up' h.1 o)
theorem tBoxD {w : World} {b : Nat} {x : Vl} (h : BK2 b x w) : BK2 b x w.drew := h
theorem tBoxW {w : World} {b : Nat} {x : Vl} (h : BK2 b x w) (e : TypeId) (s : ByteArray) : BK2 b x (Lib.bytesWorld w e s) := tBox (block_on h.1 (below_bw w e s))
set_option maxRecDepth 100000 in
set_option maxHeartbeats 1000000 in
theorem rput_2 {v : Value} {xs : List UInt8} {x : Vl} {w : World} (hv : BAt w v xs) (h : validL x = true) (hl : xs.length + 200 ≤ 140737488355328) (h2 : x.k = 2) (hsz : x.s.size ≤ 64) :
    Calls Try.prog 22 #[v, x.val] w fun e w' => ∃ v', e = .returned (.tuple #[v', .int .i64 0]) ∧ OwnB w.heap.size w' v' (xs ++ valB x) ∧ Below w.heap.size w w' := by
  have HV := hid h
  have HX := hid hv
  have HL := hid hl
  clear h hl
  obtain ⟨p, cap, rfl, -⟩ := hv
  have HB := hid ((Below.refl w.heap.size w).alloc (Nat.le_refl _) (.cells (vcl x) 44))
  have KB := hid (alloc_block w (.cells (vcl x) 44))
  have e1 : (x.k == 1) = false := by simp [h2]
  have e2 : (x.k == 2) = true := by simpa using h2
  have H1 := hid (valB_2 h2)
  have HE := hid (wrap_dig (x.s.size : Int))
  have HSZ := hid hsz
  have HMX : Hid (x.s.size ≤ maxLen) := by show x.s.size ≤ maxLen; unfold maxLen; omega
  clear h2 hsz
  have hcv : ∀ w : World, (convert 9 41 (.string x.s)).run Try.prog w = .ok (.slice (some ⟨w.heap.size, 0, none⟩) x.s.size (grownCap w x.s.size 0 5)) (Lib.bytesWorld w 5 x.s) := fun w => Lib.run_convert_string_bytes w 9 41 5 x.s Try.underlying9 Try.underlying41 Try.underlying5
  have M1 : Hid True := trivial
  go_enter Try.func22, Try.ntmps22
  go_wp2_with (first
    | (go_at_call 50; refine (rvalid_is HV.out).mono ?_; rintro e w1 ⟨rfl, hb1⟩; have HB1 := hid (below_on HB.out hb1); have KB1 := hid (block_on KB.out hb1); clear hb1)
    | (at_builtin; have FIRST := M1; refine appF_any rfl _ _ rfl rfl (OwnB.made w1.heap.size w1 (Nat.le_refl _)) rfl (HX.out.on (HB1.out.alloc HB1.out.size _)) (by have := HL.out; simp; omega) (by simp) ?_; intro v2 w2 hown2 hf2; rw [List.nil_append] at hown2; have HO2 := hid hown2; have S2 := hid (((Below.refl _ w1).alloc (Nat.le_refl _) (.cells #[] 5)).trans hf2.low); have kb2 := block_cell (block_on KB1.out S2.out); have LB2 := hid (lt_of_block (block_on KB1.out S2.out)); clear hown2 hf2 M1 FIRST))
  have hS0 := tBox (x := x) (b := w.heap.size) (block_on KB1.out S2.out)
  have HO2D : Hid (OwnB w1.heap.size w2.drew v2 xs) := HO2.out
  have HLT : Hid (∀ g, v2.ownBlock = some g → g < w2.heap.size) := fun g hg => (World.ownsRow.lt HO2.out g hg).2
  refine wp_region_noPanic ?_
  go_region_held_law (BK2 w.heap.size x) (((repeat (first | (with_reducible refine tBoxD ?_) | (with_reducible refine tBoxA ?_ _) | (with_reducible refine tBoxW ?_ _ _))); (with_reducible assumption)))
    (first
      | (have CHK : BK2 w.heap.size x ((Lib.bytesWorld w2.drew 5 x.s).alloc (.cells #[.int .u8 (IntKind.u8.wrap (x.s.size : Int))] 5)) := (by with_reducible assumption); clear CHK; have FIRST := HO2; refine step_appG rfl (.tmp 24) (.tmp 29) rfl (by simp [Act.eval]; try rfl) (by simp [Act.eval]; try rfl) ((HO2D.out.on (below_bw w2.drew 5 x.s)).alloc _) (bat_one (w := Lib.bytesWorld w2.drew 5 x.s) (x := dig (x.s.size : Int) 0) HE.out) (by simp) (by have := HL.out; simp; omega) (by have h9 : w1.heap.size ≤ w2.drew.heap.size := S2.out.size; rw [World.size_alloc, Lib.bytesWorld_size]; omega) ?_; intro v3 w3 hown3 hf3 hg3; have HO3 := hid hown3; have HY := hid (bat_grown ((bw_bat w2.drew x.s HMX.out).on ((Below.refl _ _).alloc (Nat.le_refl _) _)) hg3 (by rw [World.size_alloc, Lib.bytesWorld_size]; omega) (fun e => absurd (HLT.out _ e.symm) (Nat.lt_irrefl _))); have S3 := hid (S2.out.trans ((Below.refl w1.heap.size w2).drew.trans ((((below_bw w2.drew 5 x.s).mono S2.out.size).alloc (Nat.le_trans S2.out.size (below_bw w2.drew 5 x.s).size) _).trans hf3.low))); have hS3 := tBox (x := x) (block_on KB1.out S3.out); clear hown3 hf3 hg3 FIRST HO2 hS0)
      | (have FIRST := HO2; refine step_appG rfl (.tmp 24) (.tmp 29) rfl (by simp [Act.eval]; try rfl) (by simp [Act.eval]; try rfl) (HO2D.out.alloc _) (bat_one (w := w2.drew) (x := dig (x.s.size : Int) 0) HE.out) (by simp) (by have := HL.out; simp; omega) (by have := S2.out.size; simp; omega) ?_; intro v3 w3 hown3 hf3 hg3; have HO3 := hid hown3; have S3 := hid (S2.out.trans (((Below.refl w1.heap.size w2).drew.alloc S2.out.size _).trans hf3.low)); have hS3 := tBox (x := x) (block_on KB1.out S3.out); clear hown3 hf3 hg3 FIRST HO2 hS0)
      | (have FIRST := HO2; refine step_appG rfl (.tmp 24) (.tmp 29) rfl (by simp [Act.eval]; try rfl) (by simp [Act.eval]; try rfl) ((HO2D.out.alloc _).on (below_bw _ 5 x.s)) ((bat_one (w := w2.drew) (x := dig (x.s.size : Int) 0) HE.out).on (below_bw _ 5 x.s)) (by simp) (by have := HL.out; simp; omega) (by have := S2.out.size; rw [Lib.bytesWorld_size]; simp; omega) ?_; intro v3 w3 hown3 hf3 hg3; have HO3 := hid hown3; have HY := hid (bat_grown (bw_bat _ x.s HMX.out) hg3 (by rw [Lib.bytesWorld_size]; omega) (fun e => by have := HLT.out _ e.symm; simp at this; omega)); have S3 := hid (S2.out.trans (((Below.refl w1.heap.size w2).drew.alloc S2.out.size _).trans (((below_bw _ 5 x.s).mono (by have := S2.out.size; simp; omega)).trans hf3.low))); have hS3 := tBox (x := x) (block_on KB1.out S3.out); clear hown3 hf3 hg3 FIRST HO2 hS0)
      | (have FIRST := HO3; refine step_appF rfl (.tmp 30) (.tmp 33) rfl (by simp [Act.eval]; try rfl) (by simp [Act.eval]; try rfl) (HO3.out.on (below_bw w3 5 x.s)) (bw_bat w3 x.s HMX.out) (by have := HL.out; have := HSZ.out; rw [bytes_len, List.length_append, List.length_singleton]; omega) (Nat.le_trans S3.out.size (below_bw w3 5 x.s).size) ?_; intro v4 w4 hown4 hf4; have HO4 := hid hown4; have S4 := hid (S3.out.trans (((below_bw w3 5 x.s).mono S3.out.size).trans hf4.low)); have hS4 := tBox (x := x) (block_on KB1.out S4.out); clear hown4 hf4 FIRST HO3 hS3)
      | (have FIRST := HO3; have SECOND := HY; refine step_appF rfl (.tmp 30) (.tmp 33) rfl (by simp [Act.eval]; try rfl) (by simp [Act.eval]; try rfl) HO3.out HY.out (by have := HL.out; have := HSZ.out; rw [bytes_len, List.length_append, List.length_singleton]; omega) S3.out.size ?_; intro v4 w4 hown4 hf4; have HO4 := hid hown4; have S4 := hid (S3.out.trans hf4.low); have hS4 := tBox (x := x) (block_on KB1.out S4.out); clear hown4 hf4 FIRST SECOND HO3 hS3))
  all_goals
    refine NoPanic.normal ?_
    obtain ⟨p4, c4, e4⟩ := HO4.out.form
    subst e4
    go_wp2_with fail
    exact bodyPost_ret (v := .tuple #[.slice p4 (xs ++ [dig (x.s.size : Int) 0] ++ x.s.data.toList).length c4, .int .i64 0]) (by simp [results, Try.results22, go_sem]) rfl ⟨_, rfl, by rw [H1.out, txtB, ← List.append_assoc]; exact HO4.out.le HB1.out.size, HB1.out.trans (S4.out.mono HB1.out.size)⟩
end Go.Proofs.Ytjfholofgohcjaa
namespace Go.Proofs.Ytjfholofgohcjaa
open Go.RowKit Go.Sort Go.Shelf

theorem rput_ok {v : Value} {xs : List UInt8} {x : Vl} {w : World} (hv : BAt w v xs) (h : validL x = true) (hl : xs.length + 200 ≤ 140737488355328) (hs : x.s.size ≤ 64) :
    Calls Try.prog 22 #[v, x.val] w fun e w' => ∃ v', e = .returned (.tuple #[v', .int .i64 0]) ∧ OwnB w.heap.size w' v' (xs ++ valB x) ∧ Below w.heap.size w w' := by
  by_cases h1 : x.k = 1
  · exact rput_1 hv h hl h1
  · by_cases h2 : x.k = 2
    · exact rput_2 hv h hl h2 hs
    · by_cases h3 : x.k = 3
      · exact rput_3 hv h hl h3
      · exact rput_4 hv h hl h1 h2 h3
end Go.Proofs.Ytjfholofgohcjaa
