/-
  What wire.appendBody returns, for every table.
  What a table that may be has: how many bytes at most.
  What wire.Encode returns, for every table.
-/
import Derived.Test.YtjfholofgohcjaaPC
import Derived.Test.YtjfholofgohcjaaPI
namespace Go.Proofs.Ytjfholofgohcjaa
open Go.RowKit Go.Sort

def colB (c : Cl) : List UInt8 := txtB c.nm ++ bigB c.kd 1
def rowBy (r : Rw) : List UInt8 := r.flatMap valB
def rowsB (rs : List Rw) : List UInt8 := rs.flatMap rowBy
def colsBy (cs : List Cl) : List UInt8 := cs.flatMap colB
def bodyB (cs : List Cl) (rs : List Rw) : List UInt8 := bigB (cs.length : Int) 1 ++ (colsBy cs ++ (bigB (rs.length : Int) 2 ++ rowsB rs))
theorem colsBy_drop {cs : List Cl} {k : Nat} (h : k < cs.length) : colsBy (cs.drop k) = txtB cs[k]!.nm ++ (bigB cs[k]!.kd 1 ++ colsBy (cs.drop (k + 1))) := by
  rw [List.drop_eq_getElem_cons h, show cs[k]! = cs[k] from getElem!_pos cs k h]
  rw [colsBy, List.flatMap_cons, colB, List.append_assoc]; rfl
theorem rowsB_drop {rs : List Rw} {k : Nat} (h : k < rs.length) : rowsB (rs.drop k) = rowBy rs[k]! ++ rowsB (rs.drop (k + 1)) := by
  rw [List.drop_eq_getElem_cons h, show rs[k]! = rs[k] from getElem!_pos rs k h]
  rw [rowsB, List.flatMap_cons]; rfl
theorem rowBy_drop {r : Rw} {k : Nat} (h : k < r.length) : rowBy (r.drop k) = valB r[k]! ++ rowBy (r.drop (k + 1)) := by
  rw [List.drop_eq_getElem_cons h, show r[k]! = r[k] from getElem!_pos r k h]
  rw [rowBy, List.flatMap_cons]; rfl
theorem len_of {a b c : List UInt8} {M : Nat} (h : a ++ b = c) (hl : c.length + 1000 ≤ M) : a.length + 1000 ≤ M := by
  rw [← h, List.length_append] at hl; omega
theorem mem_get! {α : Type} [Inhabited α] {l : List α} {k : Nat} (h : k < l.length) : l[k]! ∈ l := by
  rw [show l[k]! = l[k] from getElem!_pos l k h]; exact List.getElem_mem h
set_option maxRecDepth 100000 in
set_option maxHeartbeats 1000000 in
theorem body_any {c r : Value} {cs : List Cl} {rs : List Rw} {w0 w : World} (hT : TabAt w0 (.agg #[c, r]) cs rs) (hw : Below w0.heap.size w0 w) (hs : ∀ q ∈ rs, ∀ x ∈ q, x.s.size ≤ 64) (hn : ∀ q ∈ cs, q.nm.size ≤ 64) (hl : (bodyB cs rs).length + 1000 ≤ 140737488355328) :
    Calls Try.prog 68 #[.slice none 0 0, .agg #[c, r]] w fun e w' => ∃ v', e = .returned v' ∧ OwnB w0.heap.size w' v' (bodyB cs rs) ∧ Fr w0.heap.size w w' := by
  obtain ⟨c', r', he, hc, hs', hr, hh⟩ := hT
  simp only [Value.agg.injEq, Array.mk.injEq, List.cons.injEq, and_true] at he
  obtain ⟨rfl, rfl⟩ := he
  obtain ⟨p, cap, rfl, hcap, hmax, hx⟩ := hc
  obtain ⟨p', cap', rfl, hcap', hmax', hx'⟩ := hr
  unfold maxLen at hmax hmax'
  have hB : w0.heap.size ≤ w.heap.size := hw.size
  generalize hbody : bodyB cs rs = bd at *
  have HE0 : Hid (bigB (cs.length : Int) 1 ++ (colsBy cs ++ (bigB (rs.length : Int) 2 ++ rowsB rs)) = bd) := hbody
  have HL := hid hl
  have HS := hid hs
  have HNm := hid hn
  have HX := hid hx
  have HX' := hid hx'
  have HH := hid hh
  have HW := hid hw
  have hrl : hs'.length = rs.length := hh.1
  clear hl hs hn hx hx' hh hw hbody
  rw [← hrl] at HE0
  generalize hcl : cs.length = n at *
  generalize hsl : hs'.length = m at *
  have HCL := hid hcl
  have HSL := hid hsl
  have HRL := hid hrl
  clear hcl hsl hrl
  have KB := hid (alloc_block w (.cells #[.slice p n cap, .slice p' m cap'] 25))
  have HF0 := hid ((Fr.refl w0.heap.size w).alloc hB (.cells #[.slice p n cap, .slice p' m cap'] 25))
  go_enter Try.func68, Try.ntmps68
  go_wp2_with (first
    | (go_at_call 69; refine (appNum_any (width := 1) (B := w0.heap.size) (OwnB.nil _ _) (by decide) (by rw [World.size_alloc]; omega) (by simp)).mono ?_; rintro e w1 ⟨v1, rfl, hown1, hf1⟩; rw [List.nil_append] at hown1; have HO1 := hid hown1; have HF1 := hid (HF0.out.trans hf1); have KB1 := hid (hf1.k5 _ _ _ _ KB.out (by decide)); have kb1 := block_cell KB1.out; clear hown1 hf1))
  clear kb1
  go_loopw [0, 19] (fun b i wr => ∃ (k : Nat) (ys : List UInt8), k ≤ n ∧ i = .int .i64 k ∧ Hid (OwnB w0.heap.size wr b ys) ∧ Hid (ys ++ (colsBy (cs.drop k) ++ (bigB (m : Int) 2 ++ rowsB rs)) = bd) ∧ Hid (Fr w0.heap.size w wr) ∧ Hid (wr.heap[w.heap.size]? = some (.cells #[.slice p n cap, .slice p' m cap'] 25))) (fun _ i _ => n - (intOf i).toNat)
  case atStart => exact ⟨0, _, by omega, rfl, HO1.out, HE0.out, HF1.out, KB1.out⟩
  case round =>
    obtain ⟨k, ys, hk, rfl, HO, HE, HF, HK⟩ := hrel
    by_cases hlt : k < n
    · have hkc : k < cs.length := by rw [HCL.out]; exact hlt
      obtain ⟨b, o, rfl, -, hj⟩ := HX.out (by intro e; subst e; simp at hkc)
      have HBw := hid (HW.out.trans HF.out.low)
      obtain ⟨hc0, hc1⟩ := col_cells ((hj k _ (get!_some hkc)).on HBw.out)
      have HNk := hid (HNm.out _ (mem_get! hkc))
      have HE2 := hid HE.out
      have hdrop := colsBy_drop hkc
      have HD := hid hdrop
      clear hdrop
      generalize cs[k]! = cc at hc0 hc1 HNk HD
      have hBr : w0.heap.size ≤ wr.heap.size := HBw.out.size
      have KC := hid (alloc_block wr (.cells #[.string cc.nm, .int .i64 cc.kd] 32))
      have HFr := hid ((Fr.refl w0.heap.size wr).alloc hBr (.cells #[.string cc.nm, .int .i64 cc.kd] 32))
      have HLy := hid (len_of HE.out HL.out)
      clear hj
      go_wp2_with (first
        | (go_at_call 107; refine (appText_any (HO.out.alloc _) (by rw [World.size_alloc]; omega) (by have := HLy.out; have := HNk.out; omega)).mono ?_; rintro e w2 ⟨v2, rfl, hown2, hf2⟩; have HO2 := hid hown2; have HF2 := hid (HFr.out.trans hf2); have kc2 := block_cell (hf2.k5 _ _ _ _ KC.out (by decide)); clear hown2 hf2)
        | (go_at_call 69; refine (appNum_any (width := 1) HO2.out (by decide) (Nat.le_trans hBr HF2.out.size) (by have := HLy.out; have := HNk.out; rw [List.length_append, txtB_len]; omega)).mono ?_; rintro e w3 ⟨v3, rfl, hown3, hf3⟩))
      go_roundw
      case rel =>
        have hfr := HF.out.trans (HF2.out.trans hf3)
        exact ⟨k + 1, _, by omega, by go_num, hown3, by show _ = bd; rw [← HE.out, HD.out]; simp only [List.append_assoc], hfr, (HF2.out.trans hf3).k5 _ _ _ _ HK.out (by decide)⟩
      case measure => simp [intOf]; omega
    · have hks : k = n := by omega
      subst hks
      have he1 : ys ++ (bigB (m : Int) 2 ++ rowsB rs) = bd := by
        rw [← HE.out, List.drop_eq_nil_of_le (by rw [HCL.out]; exact Nat.le_refl _)]; rfl
      have HE1 := hid he1
      have HLy := hid (len_of he1 HL.out)
      have kb := block_cell HK.out
      have hBr : w0.heap.size ≤ wr.heap.size := Nat.le_trans hB HF.out.size
      clear he1 HE KB KB1 HF0 HF1 HO1 HE0 HX HCL HNm
      go_wp2_with (first
        | (go_at_call 69; refine (appNum_any (width := 2) HO.out (by decide) hBr (by have := HLy.out; omega)).mono ?_; rintro e w2 ⟨v2, rfl, hown2, hf2⟩; have HO2 := hid hown2; have HF2 := hid (HF.out.trans hf2); have KB2 := hid (hf2.k5 _ _ _ _ HK.out (by decide)); have kb2 := block_cell KB2.out; clear hown2 hf2 kb))
      clear kb2
      go_loopw [0, 40] (fun b i w3 => ∃ (k : Nat) (zs : List UInt8), k ≤ m ∧ i = .int .i64 k ∧ Hid (OwnB w0.heap.size w3 b zs) ∧ Hid (zs ++ rowsB (rs.drop k) = bd) ∧ Hid (Fr w0.heap.size w w3)) (fun _ i _ => m - (intOf i).toNat)
      case atStart => exact ⟨0, _, by omega, rfl, HO2.out, by show _ = bd; rw [List.append_assoc]; exact HE1.out, HF2.out⟩
      case round =>
        obtain ⟨j, zs, hjm, rfl, HO3, HE3, HF3⟩ := hrel
        by_cases hjlt : j < m
        · have hjs : j < hs'.length := by rw [HSL.out]; exact hjlt
          have hjr : j < rs.length := by rw [← HRL.out]; exact hjlt
          obtain ⟨b, o, rfl, -, hjj⟩ := HX'.out (by intro e; subst e; simp at hjs)
          have HBw := hid (HW.out.trans HF3.out.low)
          have hd := head_cell (fun j x hjx => (hjj j x hjx).on HBw.out) (get!_some hjs)
          have HRow := hid (HH.out.2 j _ _ (get!_some hjs) (get!_some hjr))
          have HSk := hid (HS.out _ (mem_get! hjr))
          have HD := hid (rowsB_drop hjr)
          generalize hs'[j]! = hd0 at hd HRow
          generalize rs[j]! = row at HRow HSk HD
          clear hjj
          have hrow := HRow.out
          obtain ⟨p2, cap2, rfl, hcap2, hmax2, hx2⟩ := hrow
          unfold maxLen at hmax2
          have HX2 := hid hx2
          clear hx2
          generalize hrl2 : List.length row = q at *
          have HRL2 := hid hrl2
          clear hrl2
          go_wp2_with fail
          go_loopw [0, 46] (fun b i w4 => ∃ (k : Nat) (us : List UInt8), k ≤ q ∧ i = .int .i64 k ∧ Hid (OwnB w0.heap.size w4 b us) ∧ Hid (us ++ (rowBy (row.drop k) ++ rowsB (rs.drop (j + 1))) = bd) ∧ Hid (Fr w0.heap.size w w4)) (fun _ i _ => q - (intOf i).toNat)
          case atStart => exact ⟨0, _, by omega, rfl, HO3.out, by show _ = bd; rw [List.drop_zero, ← HD.out]; exact HE3.out, HF3.out⟩
          case round =>
            obtain ⟨k, us, hk, rfl, HO4, HE4, HF4⟩ := hrel
            by_cases hklt : k < q
            · have hkr : k < List.length row := by rw [HRL2.out]; exact hklt
              obtain ⟨b2, o2, rfl, -, hj2⟩ := HX2.out (by intro e; subst e; simp at hkr)
              have HBw4 := hid (HW.out.trans HF4.out.low)
              obtain ⟨c0, c1, c2, c3, c4, c5, c6, c7, c8, c9, c10⟩ := val_cells ((hj2 k _ (get!_some hkr)).on HBw4.out)
              have HSx := hid (HSk.out _ (mem_get! hkr))
              have HD4 := hid (rowBy_drop hkr)
              generalize row[k]! = x at c0 c1 c2 c3 c4 c5 c6 c7 c8 c9 c10 HSx HD4
              clear hj2
              have hB4 : w0.heap.size ≤ wr.heap.size := HBw4.out.size
              have HLu := hid (len_of HE4.out HL.out)
              have HF5 := hid ((Fr.refl w0.heap.size wr).alloc hB4 (.cells (vcl x) 44))
              go_wp2_with (first
                | (go_at_call 61; refine (appVal_any (HO4.out.alloc _) (by rw [World.size_alloc]; omega) (by have := HLu.out; have := HSx.out; omega)).mono ?_; rintro e w5 ⟨v5, rfl, hown5, hf5⟩))
              go_roundw
              case rel => exact ⟨k + 1, _, by omega, by go_num, hown5, by show _ = bd; rw [← HE4.out, HD4.out]; simp only [List.append_assoc], HF4.out.trans (HF5.out.trans hf5)⟩
              case measure => simp [intOf]; omega
            · have hkq : k = q := by omega
              subst hkq
              have he5 : us ++ rowsB (rs.drop (j + 1)) = bd := by
                rw [← HE4.out, show List.drop k row = [] from List.drop_eq_nil_of_le (by rw [HRL2.out]; exact Nat.le_refl _)]; rfl
              have HE5 := hid he5
              clear he5
              go_wp2
              go_roundw
              case rel => exact ⟨j + 1, us, by omega, by go_num, HO4.out, HE5.out, HF4.out⟩
              case measure => simp [intOf]; omega
        · have hjq : j = m := by omega
          subst hjq
          have he6 : zs = bd := by
            rw [← HE3.out, List.drop_eq_nil_of_le (by rw [← HRL.out]; exact Nat.le_refl _)]; simp [rowsB]
          have HE6 := hid he6
          clear he6
          go_wp2
          go_ret
          exact ⟨_, rfl, by rw [← HE6.out]; exact HO3.out, HF3.out⟩
end Go.Proofs.Ytjfholofgohcjaa
namespace Go.Proofs.Ytjfholofgohcjaa
open Go.RowKit Go.Sort

theorem check_parts {cs : List Cl} {rs : List Rw} (h : checkV cs rs = 0) : colsB cs = true ∧ ∀ r ∈ rs, rowB cs r = true := by
  unfold checkV at h
  split at h
  · rename_i hc
    split at h
    · rename_i hr; exact ⟨hc, fun r hr' => List.all_eq_true.1 hr r hr'⟩
    · omega
  · omega
theorem get_idx {α : Type} [Inhabited α] {l : List α} {x : α} (h : x ∈ l) : ∃ j, j < l.length ∧ l[j]! = x := by
  obtain ⟨j, hj, rfl⟩ := List.mem_iff_getElem.1 h
  exact ⟨j, hj, getElem!_pos l j hj⟩
theorem cols_parts {cs : List Cl} (h : colsB cs = true) : (1 ≤ cs.length ∧ cs.length ≤ 16) ∧ ∀ c ∈ cs, nameB c.nm = true ∧ 1 ≤ c.kd ∧ c.kd ≤ 4 := by
  simp only [colsB, decide_eq_true_eq] at h
  refine ⟨h.1, fun c hc => ?_⟩
  obtain ⟨j, hj, rfl⟩ := get_idx hc
  have := h.2 j hj
  simp only [colOk, Bool.and_eq_true, decide_eq_true_eq] at this
  exact ⟨this.1, this.2.2.1, this.2.2.2⟩
theorem row_parts {cs : List Cl} {r : Rw} (h : rowB cs r = true) : r.length = cs.length ∧ ∀ x ∈ r, validL x = true := by
  simp only [rowB, decide_eq_true_eq] at h
  refine ⟨h.1, fun x hx => ?_⟩
  obtain ⟨j, hj, rfl⟩ := get_idx hx
  have := h.2 j hj
  simp only [fitB, Bool.and_eq_true] at this
  exact this.2
theorem name_len {s : ByteArray} (h : nameB s = true) : 1 ≤ s.size ∧ s.size ≤ 24 := by
  simp only [nameB, Bool.and_eq_true, decide_eq_true_eq] at h
  exact h.1
theorem valid_len {x : Vl} (h : validL x = true) : x.s.size ≤ 64 := by
  unfold validL validB at h
  split at h
  · simp only [Bool.and_eq_true, decide_eq_true_eq] at h; rw [h.1]; decide
  · split at h
    · simp only [Bool.and_eq_true, decide_eq_true_eq] at h; exact h.2.2
    · split at h
      · simp only [Bool.and_eq_true, decide_eq_true_eq] at h; rw [h.2.1]; decide
      · split at h
        · simp only [Bool.and_eq_true, decide_eq_true_eq] at h; rw [h.2]; decide
        · cases h
theorem valB_len {x : Vl} (h : x.s.size ≤ 64) : (valB x).length ≤ 65 := by
  unfold valB
  split
  · rw [bigB_len]; omega
  · split
    · rw [txtB_len]; omega
    · split
      · rw [bigB_len]; omega
      · rw [hisB_len]; simp
theorem flat_le {α : Type} {f : α → List UInt8} {M : Nat} : ∀ {l : List α}, (∀ x ∈ l, (f x).length ≤ M) → (l.flatMap f).length ≤ l.length * M
  | [], _ => by simp
  | a :: l, h => by
    have h1 := h a (List.mem_cons_self ..)
    have h2 := flat_le (l := l) (fun x hx => h x (List.mem_cons_of_mem _ hx))
    rw [List.flatMap_cons, List.length_append, List.length_cons, Nat.succ_mul]
    omega
theorem body_len {cs : List Cl} {rs : List Rw} (h : checkV cs rs = 0) (hr : rs.length ≤ 4096) : (bodyB cs rs).length ≤ 4300000 := by
  obtain ⟨hc, hrr⟩ := check_parts h
  obtain ⟨hcl, hcn⟩ := cols_parts hc
  have h1 : (colsBy cs).length ≤ cs.length * 26 := flat_le (fun c hc' => by
    have := name_len (hcn c hc').1
    unfold colB
    rw [List.length_append, txtB_len, bigB_len]; omega)
  have h2 : (rowsB rs).length ≤ rs.length * 1040 := flat_le (fun r hr' => by
    obtain ⟨hl, hv⟩ := row_parts (hrr r hr')
    have h3 : (rowBy r).length ≤ List.length r * 65 := flat_le (fun x hx => valB_len (valid_len (hv x hx)))
    omega)
  unfold bodyB
  rw [List.length_append, List.length_append, List.length_append, bigB_len, bigB_len]
  omega
def encB (cs : List Cl) (rs : List Rw) : List UInt8 := bigB ((bodyB cs rs).length : Int) 4 ++ (bodyB cs rs ++ bigB (u (sum (bodyB cs rs))) 4)
theorem encB_len (cs : List Cl) (rs : List Rw) : (encB cs rs).length = (bodyB cs rs).length + 8 := by
  unfold encB
  rw [List.length_append, List.length_append, bigB_len, bigB_len]; omega
end Go.Proofs.Ytjfholofgohcjaa
namespace Go.Proofs.Ytjfholofgohcjaa
open Go.RowKit Go.Sort

set_option maxRecDepth 100000 in
set_option maxHeartbeats 1000000 in
theorem enc_err {v : Value} {cs : List Cl} {rs : List Rw} {w : World} (hT : TabAt w v cs rs) (h : ¬ checkV cs rs = 0) :
    Calls Try.prog 26 #[v] w fun e w' => e = .returned (.tuple #[.slice none 0 0, .int .i64 (checkV cs rs)]) ∧ Below w.heap.size w w' := by
  have HT := hid hT
  obtain ⟨c, r, rfl, -, -⟩ := hT
  have HB := hid ((Below.refl w.heap.size w).alloc (Nat.le_refl _) (.cells #[c, r] 25))
  generalize hz : checkV cs rs = z at *
  have HZ := hid hz
  have hne : (z != 0) = true := by simpa using h
  clear hz h
  go_enter Try.func26, Try.ntmps26
  go_wp2_with (first
    | (go_at_call 46; refine (check_any (HT.out.on HB.out)).mono ?_; rintro e w1 ⟨rfl, hb1⟩; rw [HZ.out]))
  exact bodyPost_ret (v := .tuple #[.slice none 0 0, .int .i64 z]) (by simp [results, Try.results26, go_sem]) rfl ⟨rfl, below_on HB.out hb1⟩
set_option maxRecDepth 100000 in
set_option maxHeartbeats 1000000 in
theorem enc_ok {v : Value} {cs : List Cl} {rs : List Rw} {w : World} (hT : TabAt w v cs rs) (h : checkV cs rs = 0) (hr : rs.length ≤ 4096) :
    Calls Try.prog 26 #[v] w fun e w' => ∃ v', e = .returned (.tuple #[v', .int .i64 0]) ∧ OwnB w.heap.size w' v' (encB cs rs) ∧ Below w.heap.size w w' := by
  have HT := hid hT
  have hlen := body_len h hr
  obtain ⟨hc1, hr1⟩ := check_parts h
  have HS : Hid (∀ q ∈ rs, ∀ x ∈ q, x.s.size ≤ 64) := fun q hq x hx => valid_len ((row_parts (hr1 q hq)).2 x hx)
  have HN : Hid (∀ q ∈ cs, q.nm.size ≤ 64) := fun q hq => by have := name_len ((cols_parts hc1).2 q hq).1; omega
  clear hc1 hr1
  obtain ⟨c, r, rfl, hc, hs, hrs, hh⟩ := hT
  have hsl : hs.length ≤ 4096 := by rw [hh.1]; exact hr
  obtain ⟨p', cap', rfl, -⟩ := hrs
  obtain ⟨p, cap, rfl, -⟩ := hc
  generalize cs.length = n at *
  generalize hs.length = m at *
  have hm : (m : Int) ≤ 4096 := by omega
  have HB := hid ((Below.refl w.heap.size w).alloc (Nat.le_refl _) (.cells #[.slice p n cap, .slice p' m cap'] 25))
  have KB := hid (alloc_block w (.cells #[.slice p n cap, .slice p' m cap'] 25))
  have HZ := hid h
  clear h hh hr hsl
  have HLEN := hid hlen
  clear hlen
  go_enter Try.func26, Try.ntmps26
  go_wp2_with (first
    | (go_at_call 46; refine (check_any (HT.out.on HB.out)).mono ?_; rintro e w1 ⟨rfl, hb1⟩; rw [HZ.out]; have HB1 := hid (below_on HB.out hb1); have KB1 := hid (block_on KB.out hb1); have kb1 := block_cell KB1.out; clear hb1)
    | (go_at_call 68; refine (body_any HT.out HB1.out HS.out HN.out (by have := HLEN.out; omega)).mono ?_; rintro e w2 ⟨v2, rfl, hown2, hf2⟩; have HO2 := hid hown2; have HB2 := hid (HB1.out.trans hf2.low); obtain ⟨p2, c2, rfl⟩ := hown2.form; generalize hbl : (bodyB cs rs).length = bl at *; have HBL := hid hbl; clear hown2 hf2 hbl kb1)
    | (go_at_call 69; have FIRST := HO2; refine (appNum_any (width := 4) (B := w2.heap.size) (OwnB.nil _ _) (by decide) (Nat.le_refl _) (by simp)).mono ?_; rintro e w3 ⟨v3, rfl, hown3, hf3⟩; rw [List.nil_append] at hown3; have HO3 := hid hown3; have HF3 := hid hf3; have HOB := hid HO2.out; clear hown3 hf3 HO2 FIRST)
    | (at_builtin; refine appF_any rfl _ _ rfl rfl HO3.out rfl (OwnB.on HOB.out HF3.out.low).bat (by have := HLEN.out; have := HBL.out; rw [bigB_len]; omega) HF3.out.size ?_; intro v4 w4 hown4 hf4; have HO4 := hid hown4; have HF4 := hid (HF3.out.trans hf4); have HSUM := hid (sum_any (OwnB.on HOB.out HF4.out.low).bat); have hr0 := u_range (sum (bodyB cs rs)); have hr1 : u (sum (bodyB cs rs)) ≤ 4294967295 := (by omega); have hr2 := hr0.1; clear hown4 hf4 hr0; generalize hsm : u (sum (bodyB cs rs)) = sm at *; have HSM := hid hsm; clear hsm; have hwr : wrap64 sm = sm := (by unfold wrap64; omega))
    | (go_at_call 70; refine HSUM.out.mono ?_; rintro e w5 ⟨rfl, rfl⟩)
    | (go_at_call 69; refine (appNum_any (width := 4) HO4.out (by decide) HF4.out.size (by have := HLEN.out; have := HBL.out; rw [List.length_append, bigB_len]; omega)).mono ?_; rintro e w6 ⟨v6, rfl, hown6, hf6⟩))
  exact bodyPost_ret (v := .tuple #[v6, .int .i64 0]) (by simp [results, Try.results26, go_sem]) rfl ⟨_, rfl, by
    have h6 := OwnB.le hown6 HB2.out.size
    rw [List.append_assoc, ← HBL.out, ← HSM.out] at h6
    exact h6, HB2.out.trans ((HF4.out.trans hf6).low.mono HB2.out.size)⟩
set_option maxRecDepth 100000 in
set_option maxHeartbeats 1000000 in
theorem enc_long {v : Value} {cs : List Cl} {rs : List Rw} {w : World} (hT : TabAt w v cs rs) (h : checkV cs rs = 0) (hr : 4096 < rs.length) :
    Calls Try.prog 26 #[v] w fun e w' => e = .returned (.tuple #[.slice none 0 0, .int .i64 2]) ∧ Below w.heap.size w w' := by
  have HT := hid hT
  obtain ⟨c, r, rfl, hc, hs, hrs, hh⟩ := hT
  have hsl : 4096 < hs.length := by rw [hh.1]; exact hr
  obtain ⟨p', cap', rfl, -⟩ := hrs
  obtain ⟨p, cap, rfl, -⟩ := hc
  generalize cs.length = n at *
  generalize hs.length = m at *
  have hm : (4096 : Int) < (m : Int) := by omega
  have HB := hid ((Below.refl w.heap.size w).alloc (Nat.le_refl _) (.cells #[.slice p n cap, .slice p' m cap'] 25))
  have KB := hid (alloc_block w (.cells #[.slice p n cap, .slice p' m cap'] 25))
  have HZ := hid h
  clear h hh hr hsl
  go_enter Try.func26, Try.ntmps26
  go_wp2_with (first
    | (go_at_call 46; refine (check_any (HT.out.on HB.out)).mono ?_; rintro e w1 ⟨rfl, hb1⟩; rw [HZ.out]; have HB1 := hid (below_on HB.out hb1); have KB1 := hid (block_on KB.out hb1); have kb1 := block_cell KB1.out; clear hb1))
  exact bodyPost_ret (v := .tuple #[.slice none 0 0, .int .i64 2]) (by simp [results, Try.results26, go_sem]) rfl ⟨rfl, HB1.out⟩
end Go.Proofs.Ytjfholofgohcjaa
