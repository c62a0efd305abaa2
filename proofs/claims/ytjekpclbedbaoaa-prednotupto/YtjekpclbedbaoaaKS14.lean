/-
  The contracts of Go's library that this program calls, laid at its numbers.
  What table.Find and the reference's Find return, for all columns and every name.
  Slices that a call makes for itself: what append and Go's slices.Clone leave.
  What Go's slices.Clone returns, for columns and for rows.
  What table.Check returns, for every table.
  What table.Check returns, for every table.
-/
import Derived.Test.YtjekpclbedbaoaaProg
import Derived.Test.YtjekpclbedbaoaaKS13
import Derived.Shelf.Slices.Turned
import Derived.Shelf.SlicesQ.Equal
import Derived.Shelf.SlicesQ.IndexFunc
import Derived.Shelf.SlicesE.Clone
import Derived.Laws.AppendOwnNone
import Derived.OwnWalk
import Derived.Lib.SmallJoins
namespace Go.Proofs
open Go.Shelf
def Try.cloneC_ren : Go.Shelf.Ren := ⟨fun | 41 => 34 | n => n, fun | 22 => 22 | 23 => 57 | 4 => 4 | n => n, fun | n => n⟩
theorem Try.cloneC : Go.Proofs.SlLaysE0.n41 Try.prog Try.cloneC_ren := {
  mixed := by kernel_rfl
  f41 := ⟨Try.f34.name, by decide, Try.func34.trans (congrArg some (by kernel_rfl))⟩
  t4 := Try.underlying4
  a4 := Try.isAgg4
  z4 := Try.sizeOf4
  v4 := Try.zeroValue4
  t22 := Try.underlying22
  a22 := Try.isAgg22
  z22 := Try.sizeOf22
  v22 := Try.zeroValue22 }
def Try.cloneV_ren : Go.Shelf.Ren := ⟨fun | 41 => 33 | n => n, fun | 22 => 48 | 23 => 40 | 4 => 4 | n => n, fun | n => n⟩
theorem Try.cloneV : Go.Proofs.SlLaysE0.n41 Try.prog Try.cloneV_ren := {
  mixed := by kernel_rfl
  f41 := ⟨Try.f33.name, by decide, Try.func33.trans (congrArg some (by kernel_rfl))⟩
  t4 := Try.underlying4
  a4 := Try.isAgg4
  z4 := Try.sizeOf4
  v4 := Try.zeroValue4
  t22 := Try.underlying48
  a22 := Try.isAgg48
  z22 := Try.sizeOf48
  v22 := Try.zeroValue48 }
def Try.indexC_ren : Go.Shelf.Ren := ⟨fun | 6 => 84 | n => n, fun | 22 => 22 | 23 => 57 | 25 => 120 | 3 => 3 | 0 => 0 | 4 => 4 | n => n, fun | n => n⟩
theorem Try.indexC : Go.Proofs.SlLaysH0.n6 Try.prog Try.indexC_ren := {
  mixed := by kernel_rfl
  f6 := ⟨Try.f84.name, by decide, Try.func84.trans (congrArg some (by kernel_rfl))⟩
  t0 := Try.underlying0
  a0 := Try.isAgg0
  z0 := Try.sizeOf0
  v0 := Try.zeroValue0
  t3 := Try.underlying3
  a3 := Try.isAgg3
  z3 := Try.sizeOf3
  v3 := Try.zeroValue3
  t4 := Try.underlying4
  a4 := Try.isAgg4
  z4 := Try.sizeOf4
  v4 := Try.zeroValue4
  t22 := Try.underlying22
  a22 := Try.isAgg22
  z22 := Try.sizeOf22
  v22 := Try.zeroValue22
  t25 := Try.underlying120
  a25 := Try.isAgg120
  z25 := Try.sizeOf120
  v25 := Try.zeroValue120 }
end Go.Proofs
namespace Go.Proofs.Ytjekpclbedbaoaa.TN
open Go.RowKit Go.Sort Go.Shelf

instance : Inhabited Cl := ⟨⟨⟨#[]⟩, 0, by decide⟩⟩
def isNm (nm : ByteArray) (c : Cl) : Bool := decide (c.nm = nm)
def findC (cs : List Cl) (nm : ByteArray) : Int := Lib.idxBy (fun _ y => isNm nm y) cs default
theorem findC_hit {cs : List Cl} {nm : ByteArray} {k : Nat} (hk : k < cs.length) (h : isNm nm cs[k]! = true) (hne : ∀ j, j < k → isNm nm cs[j]! = false) : findC cs nm = k := by
  have := Lib.idxBy_hit (fun _ y => isNm nm y) cs cs.length k default hk (Nat.le_refl _) h hne
  rwa [List.take_length] at this
theorem findC_miss {cs : List Cl} {nm : ByteArray} (hne : ∀ j, j < cs.length → isNm nm cs[j]! = false) : findC cs nm = -1 := by
  have := Lib.idxBy_miss (fun _ y => isNm nm y) cs cs.length default hne
  rwa [List.take_length] at this
theorem get!_some {α : Type} [Inhabited α] {xs : List α} {j : Nat} (h : j < xs.length) : xs[j]? = some xs[j]! := by
  rw [List.getElem?_eq_getElem h, List.getElem!_eq_getElem?_getD, List.getElem?_eq_getElem h]; rfl

theorem isNm_bytes (nm : ByteArray) (c : Cl) : (c.nm.toList == nm.toList) = isNm nm c := bytes_beq _ _
set_option maxHeartbeats 400000 in
theorem findP (nm : ByteArray) (B : Nat) (w : World) (hB : w.cell? ⟨B, 0, none⟩ = some (.string nm)) :
    PredBelow Try.prog 85 #[.pointer (some ⟨B, 0, none⟩)] (fun x : Cl => .agg x.cells.toArray) (isNm nm) w := fun W x hb => by
  have hBl : B < w.heap.size := block_lt_of_cell hB
  have hc : W.cell? ⟨B, 0, none⟩ = some (.string nm) := (hb.cell (p := ⟨B, 0, none⟩) hBl).trans hB
  have hne : B ≠ W.heap.size := by have := hb.size; omega
  have hbl : B < W.heap.size := by have := hb.size; omega
  have hq := isNm_bytes nm x
  show Calls Try.prog 85 #[.agg #[.string x.nm, .int .i64 x.kd], .pointer (some ⟨B, 0, none⟩)] W _
  generalize isNm nm x = r at hq ⊢
  go_enter Try.func85, Try.ntmps85
  go_wp2
  go_ret
  exact ⟨rfl, hb.alloc hb.size _⟩
set_option maxHeartbeats 400000 in
theorem find_any {v : Value} {cs : List Cl} {nm : ByteArray} {w : World} (hv : ColsAt w v cs) :
    Calls Try.prog 65 #[v, .string nm] w fun e w' => e = .returned (.int .i64 (findC cs nm)) ∧ Below w.heap.size w w' := by
  obtain ⟨p, cap, rfl, hcap, hmax, hx⟩ := hv
  unfold maxLen at hmax
  generalize hr : findC cs nm = r
  have eg : ∀ args w, (callFunc 85 args).run Try.prog w = .ok (.enter 85 args) w := enters_of Try.func85 (by kernel_rfl) rfl
  have hcon : Calls Try.prog 84 #[.slice p cs.length cap, .func (.func 85) #[] #[.pointer (some ⟨w.heap.size, 0, none⟩)]] (w.alloc (.cells #[.string nm] 9)) fun e w' => e = .returned (.int .i64 r) ∧ Below (w.alloc (.cells #[.string nm] 9)).heap.size (w.alloc (.cells #[.string nm] 9)) w' := by
    rw [← hr]
    by_cases hn : cs = []
    · subst hn
      go_enter Try.func84, Try.ntmps84
      go_wp2
      refine wp_loop_rounds 1 ?_
      rw [rounds_succ]
      go_wp2
      go_ret
      exact ⟨rfl, Below.refl _ _⟩
    · obtain ⟨b, o, rfl, -, hj⟩ := hx hn
      have hb0 : b < w.heap.size := by
        have h0 : 0 < cs.length := List.length_pos_iff.2 hn
        exact block_lt_of_cell (hj 0 _ (get!_some h0) 0 _ rfl)
      have h := AnyQ.slices_IndexFunc Try.indexC 2 Try.isAgg57 Try.sizeOf57 Cl.cells (fun _ => rfl) (isNm nm) 85 #[.pointer (some ⟨w.heap.size, 0, none⟩)] eg b o cs.length cap cs (w.alloc (.cells #[.string nm] 9)) (findP nm w.heap.size _ (by simp)) (Nat.le_refl _) hmax (by simp; omega) (fun j hjl i u hu => Lib.cell?_alloc_some _ (hj j _ (get!_some hjl) i u hu))
      rw [List.take_length] at h
      exact h
  have HC := hid hcon
  clear hcon hx hr
  go_enter Try.func65, Try.ntmps65
  go_wp2_with (go_at_call 84; refine HC.out.mono ?_; rintro e w' ⟨rfl, hb'⟩)
  go_ret
  exact ⟨rfl, below_on ((Below.refl _ w).alloc (Nat.le_refl _) _) hb'⟩
set_option maxHeartbeats 400000 in
theorem rfind_any {v : Value} {cs : List Cl} {nm : ByteArray} {w : World} (hv : ColsAt w v cs) :
    Calls Try.prog 27 #[v, .string nm] w fun e w' => e = .returned (.int .i64 (findC cs nm)) ∧ Below w.heap.size w w' := by
  obtain ⟨p, cap, rfl, hcap, hmax, hx⟩ := hv
  unfold maxLen at hmax
  generalize hn : cs.length = n at *
  generalize hr : findC cs nm = r
  have HX := hid hx
  have HR := hid hr
  have HN := hid hn
  clear hx hr hn
  go_enter Try.func27, Try.ntmps27
  go_wp2
  go_loopw [5] (fun i wr => ∃ k : Nat, k ≤ n ∧ i = .int .i64 k ∧ Hid (Below w.heap.size w wr) ∧ Hid (∀ j, j < k → isNm nm cs[j]! = false)) (fun i _ => n - (intOf i).toNat)
  case atStart => exact ⟨0, by omega, rfl, Below.refl _ _, fun j h => absurd h (Nat.not_lt_zero _)⟩
  case round =>
    obtain ⟨k, hk, rfl, HB, HA⟩ := hrel
    by_cases hlt : k < n
    · have hkc : k < cs.length := by rw [HN.out]; exact hlt
      obtain ⟨b, o, rfl, -, hj⟩ := HX.out (by intro e; subst e; simp at hkc)
      have hc := (col_cells ((hj k _ (get!_some hkc)).on HB.out)).1
      have hq := isNm_bytes nm cs[k]!
      generalize hcc : cs[k]! = c at hc hq
      have HCC := hid hcc
      clear hcc hj
      cases hb : isNm nm c with
      | true =>
        rw [hb] at hq
        go_wp2
        go_ret
        exact ⟨ret_int ((findC_hit hkc (by rw [HCC.out]; exact hb) HA.out).symm.trans HR.out), HB.out⟩
      | false =>
        rw [hb] at hq
        go_wp2
        go_roundw
        case rel =>
          refine ⟨k + 1, by omega, by go_num, HB.out, fun j h => ?_⟩
          by_cases e : j = k
          · subst e; rw [HCC.out]; exact hb
          · exact HA.out j (by omega)
        case measure => simp [intOf]; omega
    · have hks : k = n := by omega
      subst hks
      go_wp2
      go_ret
      exact ⟨ret_int ((findC_miss (by rw [HN.out]; exact HA.out)).symm.trans HR.out), HB.out⟩
end Go.Proofs.Ytjekpclbedbaoaa.TN
namespace Go.Proofs.Ytjekpclbedbaoaa.TN
open Go.RowKit Go.Sort Go.Shelf

section
variable {α : Type} {enc : α → List Value} {k : Nat}
theorem flat_get (hk : ∀ x, (enc x).length = k) : ∀ (xs : List α) (j : Nat) x, xs[j]? = some x → ∀ (i : Nat) u, (enc x)[i]? = some u → (xs.flatMap enc)[j * k + i]? = some u
  | [], _, _, h, _, _, _ => by simp at h
  | y :: ys, 0, x, h, i, u, hi => by
    simp at h; subst h
    rw [List.flatMap_cons, Nat.zero_mul, Nat.zero_add, List.getElem?_append_left (by exact (List.getElem?_eq_some_iff.1 hi).1)]
    exact hi
  | y :: ys, j + 1, x, h, i, u, hi => by
    have ih := flat_get hk ys j x (by simpa using h) i u hi
    have e : (j + 1) * k + i = k + (j * k + i) := by rw [Nat.succ_mul]; omega
    rw [List.flatMap_cons, List.getElem?_append_right (by rw [hk]; omega), hk, e, Nat.add_sub_cancel_left]
    exact ih
theorem flat_cells (hk : ∀ x, (enc x).length = k) {w : World} {b : Nat} : ∀ (xs : List α) (o : Nat), (∀ (j : Nat) x, xs[j]? = some x → CellsAt w b (o + j * k) (enc x)) → CellsAt w b o (xs.flatMap enc)
  | [], _, _ => fun j u h => by simp at h
  | y :: ys, o, h => fun j u hj => by
    rw [List.flatMap_cons] at hj
    by_cases hlt : j < k
    · rw [List.getElem?_append_left (by rw [hk]; exact hlt)] at hj
      have := h 0 y rfl j u hj
      rwa [Nat.zero_mul, Nat.add_zero] at this
    · rw [List.getElem?_append_right (by rw [hk]; omega), hk] at hj
      have ih := flat_cells hk ys (o + k) (fun i x hx => by
        have := h (i + 1) x (by simpa using hx)
        have e : o + (i + 1) * k = o + k + i * k := by rw [Nat.succ_mul]; omega
        rwa [e] at this) (j - k) u hj
      have e : o + k + (j - k) = o + j := by omega
      rwa [e] at ih
theorem flat_length (hk : ∀ x, (enc x).length = k) (xs : List α) : (xs.flatMap enc).length = xs.length * k := by
  induction xs with
  | nil => simp
  | cons y ys ih => rw [List.flatMap_cons, List.length_append, hk, ih, List.length_cons, Nat.succ_mul]; omega
end
theorem vl_len (x : Vl) : x.cells.length = 11 := rfl
theorem cl_len (x : Cl) : x.cells.length = 2 := rfl
theorem one_len (x : Value) : (one x).length = 1 := rfl
/- What the program's table of types says of an element's type. -/
def Elem (t e k : Nat) : Prop := Try.prog.underlying t = some (.slice e) ∧ 0 < k ∧ ∃ i z, Try.prog.info? e = some i ∧ i.zero = some z ∧ i.size = k ∧ i.bytes ≤ bsz k ∧ z.cells.size = k
theorem info48 : (Try.prog.info? 40).map (fun i => (i.zero, i.size, i.bytes)) = some (some (V 0 0 ⟨#[]⟩ 0 0 0 0 0 0 0 0), 11, 96) := by kernel_rfl
theorem info45 : (Try.prog.info? 57).map (fun i => (i.zero, i.size, i.bytes)) = some (some (.agg #[.string ⟨#[]⟩, .int .i64 0]), 2, 24) := by kernel_rfl
theorem info35 : (Try.prog.info? 48).map (fun i => (i.zero, i.size, i.bytes)) = some (some (.slice none 0 0), 1, 24) := by kernel_rfl
theorem elem48 : Elem 48 40 11 := by
  obtain ⟨i, hi, h0, h1, h2⟩ := info_parts info48
  exact ⟨Try.underlying48, by omega, i, _, hi, h0, h1, Nat.le_of_eq h2, rfl⟩
theorem elem45 : Elem 22 57 2 := by
  obtain ⟨i, hi, h0, h1, h2⟩ := info_parts info45
  exact ⟨Try.underlying22, by omega, i, _, hi, h0, h1, Nat.le_of_eq h2, rfl⟩
theorem elem35 : Elem 23 48 1 := by
  obtain ⟨i, hi, h0, h1, h2⟩ := info_parts info35
  exact ⟨Try.underlying23, by omega, i, _, hi, h0, h1, Nat.le_of_eq h2, rfl⟩
theorem info3 : (Try.prog.info? 3).map (fun i => (i.zero, i.size, i.bytes)) = some (some (.int .i64 0), 1, 8) := by kernel_rfl
theorem info9 : (Try.prog.info? 9).map (fun i => (i.zero, i.size, i.bytes)) = some (some (.string ⟨#[]⟩), 1, 16) := by kernel_rfl
theorem elem3 : Elem 37 3 1 := by
  obtain ⟨i, hi, h0, h1, h2⟩ := info_parts info3
  exact ⟨Try.underlying37, by omega, i, _, hi, h0, h1, by rw [h2]; decide, rfl⟩
theorem elem9 : Elem 41 9 1 := by
  obtain ⟨i, hi, h0, h1, h2⟩ := info_parts info9
  exact ⟨Try.underlying41, by omega, i, _, hi, h0, h1, by rw [h2]; decide, rfl⟩
/- A slice of the call's own, of these elements. -/
def Own {α : Type} (enc : α → List Value) (k e : Nat) (B : Nat) (w : World) (v : Value) (xs : List α) : Prop := w.ownsRow B e k v xs.length (xs.flatMap enc)
theorem Own.sl {α : Type} {enc : α → List Value} {k e B : Nat} {w : World} {v : Value} {xs : List α} (h : Own enc k e B w v xs) (hk : ∀ x, (enc x).length = k) (hb : xs.length * bsz k ≤ 140737488355328) : SlAt (fun b => B ≤ b) enc k w v xs := by
  have hm : xs.length ≤ maxLen := by
    unfold maxLen; unfold bsz at hb; split at hb <;> omega
  rcases h.2 with ⟨hv, h0⟩ | ⟨g, cap, cur, hv, hg, hblk, hc, _⟩
  · have hn : xs = [] := List.eq_nil_of_length_eq_zero h0
    subst hn
    exact ⟨none, 0, hv, ⟨by simp, fun _ => rfl⟩, hm, fun hne => absurd rfl hne⟩
  · refine ⟨some ⟨g, 0, none⟩, cap, hv, ⟨hc, fun e => by cases e⟩, hm, fun _ => ⟨g, 0, rfl, ⟨hg, hb⟩, fun j x hx i u hi => ?_⟩⟩
    have := World.ownsRow.cells h (g := g) (by rw [hv]; rfl) (j * k + i) u (flat_get hk xs j x hx i u hi)
    rw [Addr.add_lit, Nat.zero_add] at this
    rw [Nat.zero_add]
    exact this
theorem Own.nil {α : Type} (enc : α → List Value) (k e B : Nat) (w : World) : Own enc k e B w (.slice none 0 0) ([] : List α) := World.ownsRow_nil w B e k
theorem Own.made {α : Type} (enc : α → List Value) (k e B : Nat) (w : World) (hb : B ≤ w.heap.size) : Own enc k e B (w.alloc (.cells #[] e)) (.slice (some ⟨w.heap.size, 0, none⟩) 0 0) ([] : List α) :=
  World.ownsRow_made w #[] 0 hb (Nat.zero_le _) (by simp)
theorem Own.lt {α : Type} {enc : α → List Value} {k e B : Nat} {w : World} {v : Value} {xs : List α} (h : Own enc k e B w v xs) : ∀ g, v.ownBlock = some g → B ≤ g := fun g hg => (World.ownsRow.lt h g hg).1
/- append(s, x...): s of the call's own, x any slice. -/
theorem app_any {ops : Array Oper} {rest : List Oper} {o : Oper} {a : Act} {Q : Exit → Act → World → Prop} {w : World} {α : Type} {enc : α → List Value} {k e t B : Nat} {Qb : Nat → Prop} {xs ys : List α} {v u : Value}
    (hE : Elem t e k) (hk : ∀ x, (enc x).length = k) (h1 : ∀ y ∈ ys, ∀ c ∈ enc y, c.oneCell' = true) (hgd : o.guard = none) (s x : Operand) (ho : o.op = .call { callee := .builtin .append, args := #[s, x], argTypes := #[t, t] })
    (hs : a.eval s = v) (hown : Own enc k e B w v xs) (hx : a.eval x = u) (hu : SlAt Qb enc k w u ys) (hb : (xs.length + ys.length) * bsz k ≤ 140737488355328) (hB : B ≤ w.heap.size)
    (h : ∀ v' w', Own enc k e B w' v' (xs ++ ys) → Below B w w' → wpList Try.prog ops Q rest (a.put o.dst v') w') : wpList Try.prog ops Q (o :: rest) a w := by
  obtain ⟨ht, hkp, i0, z, hi, hz0, hz1, hz2, hzs⟩ := hE
  obtain ⟨p, cap, rfl, ⟨hcap, hnone⟩, hmax, hy⟩ := hu
  cases p with
  | none =>
    have hn : ys = [] := by
      cases ys with
      | nil => rfl
      | cons y r => obtain ⟨b, o, hp, _⟩ := hy (by simp); cases hp
    subst hn
    have hc := hnone rfl
    subst hc
    refine wpList_append_own_none hgd s x t ho B e i0 k ht hi v xs.length _ hs hown (by rw [hx]; rfl) ?_
    have := h v w (by rw [List.append_nil]; exact hown) (Below.refl _ _)
    exact this
  | some ad =>
    refine wpList_append_own w hgd s x t ho B e i0 z k i0.bytes ht hi hz0 hz1 rfl hzs hkp v xs.length _ hs hown ad ys.length cap (ys.flatMap enc) hx (flat_length hk ys) ?_ ?_ ?_ (Nat.le_trans (Nat.mul_le_mul_left _ hz2) hb) hB ?_
    · intro j c hj
      have hne : ys ≠ [] := by intro e; subst e; simp at hj
      obtain ⟨b, o, hp, _, hcell⟩ := hy hne
      have hp' : ad = ⟨b, o, none⟩ := Option.some.inj hp
      rw [hp', Addr.add_lit]
      exact flat_cells hk ys o hcell j c hj
    · intro c hc
      obtain ⟨y, hy', hcy⟩ := List.mem_flatMap.1 hc
      exact h1 y hy' c hcy
    · unfold maxLen; unfold bsz at hb; split at hb <;> omega
    · intro v' w' h2 h3 _
      refine h v' w' ?_ ((Below.refl B w).grown h3 hB (fun j e => (hown.lt j e)))
      show w'.ownsRow B e k v' (xs ++ ys).length ((xs ++ ys).flatMap enc)
      rw [List.length_append, List.flatMap_append]; exact h2
theorem vl_cells (x : Vl) : ∀ c ∈ x.cells, c.oneCell' = true := by
  intro c hc; simp [Vl.cells] at hc; rcases hc with rfl | rfl | rfl | rfl | rfl | rfl | rfl | rfl | rfl | rfl | rfl <;> rfl
theorem cl_cells (x : Cl) : ∀ c ∈ x.cells, c.oneCell' = true := by
  intro c hc; simp [Cl.cells] at hc; rcases hc with rfl | rfl <;> rfl
end Go.Proofs.Ytjekpclbedbaoaa.TN
namespace Go.Proofs.Ytjekpclbedbaoaa.TN
open Go.RowKit Go.Sort Go.Shelf

theorem SlAt.bound {α : Type} {Q : Nat → Prop} {enc : α → List Value} {k : Nat} {w : World} {v : Value} {xs : List α} (h : SlAt Q enc k w v xs) : xs.length * bsz k ≤ 140737488355328 := by
  obtain ⟨p, cap, _, _, _, hx⟩ := h
  by_cases hn : xs = []
  · subst hn; simp
  · obtain ⟨_, _, _, hb, _⟩ := hx hn; exact hb.2
theorem SlAt.nil {α : Type} (Q : Nat → Prop) (enc : α → List Value) (k : Nat) (w : World) : SlAt Q enc k w (.slice none 0 0) ([] : List α) :=
  ⟨none, 0, rfl, ⟨Nat.le_refl _, fun _ => rfl⟩, Nat.zero_le _, fun h => absurd rfl h⟩
theorem SlAt.empty {α : Type} {Q : Nat → Prop} {enc : α → List Value} {k : Nat} {w : World} {cap : Nat} {xs : List α} {n : Nat} (h : SlAt Q enc k w (.slice none n cap) xs) : xs = [] := by
  obtain ⟨p, cap', hv, _, _, hx⟩ := h
  by_cases hn : xs = []
  · exact hn
  · obtain ⟨b, o, hp, _⟩ := hx hn
    subst hp; cases hv
set_option maxHeartbeats 400000 in
theorem cloneV_any {u : Value} {r : Rw} {w : World} (hu : RowAt w u r) :
    Calls Try.prog 33 #[u] w fun e w' => ∃ v', e = .returned v' ∧ RowIn (fun b => w.heap.size ≤ b) w' v' r ∧ Below w.heap.size w w' := by
  have HU := hid hu
  obtain ⟨p, cap, rfl, hcap, hmax, hx⟩ := hu
  clear hcap hmax hx
  generalize List.length r = n at *
  have q22 : ∀ (w : World) (a : Option Addr) (n c n' c' : Nat), (binOp .eql 48 (.slice a n c) (.slice none n' c')).run Try.prog w = .ok (.bool a.isNone) w := fun w a n c n' c' => Lib.run_eql_slice_nil w _ _ a n c n' c' Try.underlying48
  cases p with
  | none =>
    have hn := SlAt.empty HU.out
    subst hn
    go_enter Try.func33, Try.ntmps33
    go_wp2
    go_ret
    exact ⟨_, rfl, SlAt.nil _ _ _ _, Below.refl _ _⟩
  | some ad =>
    go_enter Try.func33, Try.ntmps33
    go_wp2_with (at_builtin; refine app_any elem48 vl_len (fun x _ => vl_cells x) rfl _ _ rfl rfl (Own.made Vl.cells 11 40 w.heap.size w (Nat.le_refl _)) rfl (SlAt.on HU.out ((Below.refl _ _).alloc (Nat.le_refl _) _)) (by simpa using SlAt.bound HU.out) (by simp) ?_; intro v' w1 hown hb1)
    go_ret
    exact ⟨_, rfl, Own.sl (by rw [List.nil_append] at hown; exact hown) vl_len (SlAt.bound HU.out), ((Below.refl _ _).alloc (Nat.le_refl _) _).trans hb1⟩
set_option maxHeartbeats 400000 in
theorem cloneC_any {u : Value} {r : List Cl} {w : World} (hu : ColsAt w u r) :
    Calls Try.prog 34 #[u] w fun e w' => ∃ v', e = .returned v' ∧ SlAt (fun b => w.heap.size ≤ b) Cl.cells 2 w' v' r ∧ Below w.heap.size w w' := by
  have HU := hid hu
  obtain ⟨p, cap, rfl, hcap, hmax, hx⟩ := hu
  clear hcap hmax hx
  generalize List.length r = n at *
  have q22 : ∀ (w : World) (a : Option Addr) (n c n' c' : Nat), (binOp .eql 22 (.slice a n c) (.slice none n' c')).run Try.prog w = .ok (.bool a.isNone) w := fun w a n c n' c' => Lib.run_eql_slice_nil w _ _ a n c n' c' Try.underlying22
  cases p with
  | none =>
    have hn := SlAt.empty HU.out
    subst hn
    go_enter Try.func34, Try.ntmps34
    go_wp2
    go_ret
    exact ⟨_, rfl, SlAt.nil _ _ _ _, Below.refl _ _⟩
  | some ad =>
    go_enter Try.func34, Try.ntmps34
    go_wp2_with (at_builtin; refine app_any elem45 cl_len (fun x _ => cl_cells x) rfl _ _ rfl rfl (Own.made Cl.cells 2 57 w.heap.size w (Nat.le_refl _)) rfl (SlAt.on HU.out ((Below.refl _ _).alloc (Nat.le_refl _) _)) (by simpa using SlAt.bound HU.out) (by simp) ?_; intro v' w1 hown hb1)
    go_ret
    exact ⟨_, rfl, Own.sl (by rw [List.nil_append] at hown; exact hown) cl_len (SlAt.bound HU.out), ((Below.refl _ _).alloc (Nat.le_refl _) _).trans hb1⟩
end Go.Proofs.Ytjekpclbedbaoaa.TN
namespace Go.Proofs.Ytjekpclbedbaoaa.TN
open Go.RowKit Go.Sort Go.Shelf

instance : Inhabited Vl := ⟨⟨0, 0, ⟨#[]⟩, 0, 0, 0, 0, 0, 0, 0, 0, by decide⟩⟩
def colOk (cs : List Cl) (i : Nat) (c : Cl) : Bool := nameB c.nm && (decide (findC cs c.nm = (i : Int)) && (decide (1 ≤ c.kd) && decide (c.kd ≤ 4)))
def colsB (cs : List Cl) : Bool := decide ((1 ≤ cs.length ∧ cs.length ≤ 16) ∧ ∀ j, j < cs.length → colOk cs j cs[j]! = true)
theorem colsB_no {cs : List Cl} (h : ¬ (1 ≤ cs.length ∧ cs.length ≤ 16)) : colsB cs = false := by simp only [colsB, decide_eq_false_iff_not]; exact fun h' => h h'.1
theorem colsB_bad {cs : List Cl} {j : Nat} (hj : j < cs.length) (h : colOk cs j cs[j]! = false) : colsB cs = false := by
  simp only [colsB, decide_eq_false_iff_not]; intro h'; rw [h'.2 j hj] at h; cases h
theorem colsB_yes {cs : List Cl} (h : 1 ≤ cs.length ∧ cs.length ≤ 16) (ha : ∀ j, j < cs.length → colOk cs j cs[j]! = true) : colsB cs = true := by
  simp only [colsB, decide_eq_true_eq]; exact ⟨h, ha⟩
def fitB (k : Int) (v : Vl) : Bool := decide (v.k = k) && validL v
def rowB (cs : List Cl) (r : Rw) : Bool := decide (r.length = cs.length ∧ ∀ j, j < r.length → fitB cs[j]!.kd r[j]! = true)
theorem rowB_no {cs : List Cl} {r : Rw} (h : ¬ r.length = cs.length) : rowB cs r = false := by simp only [rowB, decide_eq_false_iff_not]; exact fun h' => h h'.1
theorem rowB_bad {cs : List Cl} {r : Rw} {j : Nat} (hj : j < r.length) (h : fitB cs[j]!.kd r[j]! = false) : rowB cs r = false := by
  simp only [rowB, decide_eq_false_iff_not]; intro h'; rw [h'.2 j hj] at h; cases h
theorem rowB_yes {cs : List Cl} {r : Rw} (h : r.length = cs.length) (ha : ∀ j, j < r.length → fitB cs[j]!.kd r[j]! = true) : rowB cs r = true := by
  simp only [rowB, decide_eq_true_eq]; exact ⟨h, ha⟩
def checkV (cs : List Cl) (rs : List Rw) : Int := if colsB cs = true then (if rs.all (rowB cs) = true then 0 else 21) else 20

theorem colOk_name {cs : List Cl} {i : Nat} {c : Cl} (h : nameB c.nm = false) : colOk cs i c = false := by simp [colOk, h]
theorem colOk_find {cs : List Cl} {i : Nat} {c : Cl} (h : ¬ findC cs c.nm = (i : Int)) : colOk cs i c = false := by simp [colOk, h]
theorem colOk_kind {cs : List Cl} {i : Nat} {c : Cl} (h : ¬ (1 ≤ c.kd ∧ c.kd ≤ 4)) : colOk cs i c = false := by
  unfold colOk
  have : (decide (1 ≤ c.kd) && decide (c.kd ≤ 4)) = false := by rw [← Bool.decide_and]; simp only [decide_eq_false_iff_not]; exact h
  rw [this]; simp
theorem colOk_yes {cs : List Cl} {i : Nat} {c : Cl} (h1 : nameB c.nm = true) (h2 : findC cs c.nm = (i : Int)) (h3 : 1 ≤ c.kd) (h4 : c.kd ≤ 4) : colOk cs i c = true := by simp [colOk, h1, h2, h3, h4]
set_option maxHeartbeats 1000000 in
theorem cols_any {v : Value} {cs : List Cl} {w : World} (hv : ColsAt w v cs) :
    Calls Try.prog 63 #[v] w fun e w' => e = .returned (.bool (colsB cs)) ∧ Below w.heap.size w w' := by
  have hv0 := hv
  obtain ⟨p, cap, rfl, hcap, hmax, hx⟩ := hv
  unfold maxLen at hmax
  generalize hr : colsB cs = r
  have HR := hid hr
  clear hr
  by_cases h1 : cs.length < 1
  · have g1 : (cs.length : Int) < 1 := by omega
    clear hx hv0
    go_enter Try.func63, Try.ntmps63
    go_wp2
    go_ret
    exact ⟨ret_bool ((colsB_no (by omega)).symm.trans HR.out), Below.refl _ _⟩
  · have g1 : ¬ (cs.length : Int) < 1 := by omega
    by_cases h2 : 16 < cs.length
    · have g2 : (16 : Int) < (cs.length : Int) := by omega
      clear hx hv0
      go_enter Try.func63, Try.ntmps63
      go_wp2
      go_ret
      exact ⟨ret_bool ((colsB_no (by omega)).symm.trans HR.out), Below.refl _ _⟩
    · have g2 : ¬ (16 : Int) < (cs.length : Int) := by omega
      obtain ⟨b, o, rfl, -, hj⟩ := hx (by intro e; subst e; simp at h1)
      have HV := hid hv0
      have HJ := hid hj
      clear hx hv0 hj
      generalize hn : cs.length = n at *
      have HN := hid hn
      clear hn
      go_enter Try.func63, Try.ntmps63
      go_wp2
      go_loopw [4, 15] (fun _ i wr => ∃ k : Nat, k ≤ n ∧ i = .int .i64 k ∧ Hid (Below w.heap.size w wr) ∧ Hid (∀ j, j < k → colOk cs j cs[j]! = true)) (fun _ i _ => n - (intOf i).toNat)
      case atStart => exact ⟨0, by omega, rfl, Below.refl _ _, fun j h => absurd h (Nat.not_lt_zero _)⟩
      case round =>
        obtain ⟨k, hk, rfl, HB, HA⟩ := hrel
        by_cases hlt : k < n
        · have hkc : k < cs.length := by rw [HN.out]; exact hlt
          obtain ⟨hc0, hc1⟩ := col_cells ((HJ.out k _ (get!_some hkc)).on HB.out)
          generalize hcc : cs[k]! = c at hc0 hc1
          have HCC := hid hcc
          clear hcc
          have hsz : w.heap.size ≤ wr.heap.size := HB.out.size
          have HS := hid c.small
          have HE : Hid (Below w.heap.size w (wr.alloc (.cells #[.string c.nm, .int .i64 c.kd] 57))) := HB.out.alloc hsz _
          cases hb : nameB c.nm with
          | false =>
            go_wp2_with (first | (go_at_call 82; refine (name_any HS.out).mono ?_; rintro e w' ⟨rfl, rfl⟩; rw [hb]))
            go_ret
            exact ⟨ret_bool ((colsB_bad hkc (by rw [HCC.out]; exact colOk_name hb)).symm.trans HR.out), HE.out⟩
          | true =>
            generalize hf : findC cs c.nm = f
            have HF := hid hf
            clear hf
            by_cases hfk : f = (k : Int)
            · subst hfk
              by_cases h3 : c.kd < 1
              · go_wp2_with (first | (go_at_call 82; refine (name_any HS.out).mono ?_; rintro e w' ⟨rfl, rfl⟩; rw [hb]) | (go_at_call 65; refine (find_any (HV.out.on HE.out)).mono ?_; rintro e w' ⟨rfl, hbl⟩; rw [HF.out]; obtain ⟨hcc, hff⟩ := bcell hbl))
                go_ret
                exact ⟨ret_bool ((colsB_bad hkc (by rw [HCC.out]; exact colOk_kind (by omega))).symm.trans HR.out), below_on HE.out hbl⟩
              · by_cases h4 : 4 < c.kd
                · go_wp2_with (first | (go_at_call 82; refine (name_any HS.out).mono ?_; rintro e w' ⟨rfl, rfl⟩; rw [hb]) | (go_at_call 65; refine (find_any (HV.out.on HE.out)).mono ?_; rintro e w' ⟨rfl, hbl⟩; rw [HF.out]; obtain ⟨hcc, hff⟩ := bcell hbl))
                  go_ret
                  exact ⟨ret_bool ((colsB_bad hkc (by rw [HCC.out]; exact colOk_kind (by omega))).symm.trans HR.out), below_on HE.out hbl⟩
                · go_wp2_with (first | (go_at_call 82; refine (name_any HS.out).mono ?_; rintro e w' ⟨rfl, rfl⟩; rw [hb]) | (go_at_call 65; refine (find_any (HV.out.on HE.out)).mono ?_; rintro e w' ⟨rfl, hbl⟩; rw [HF.out]; obtain ⟨hcc, hff⟩ := bcell hbl))
                  go_roundw
                  case rel =>
                    refine ⟨k + 1, by omega, by go_num, below_on HE.out hbl, fun j h => ?_⟩
                    by_cases e : j = k
                    · subst e; rw [HCC.out]; exact colOk_yes hb HF.out (by omega) (by omega)
                    · exact HA.out j (by omega)
                  case measure => simp [intOf]; omega
            · have hne : (f != (k : Int)) = true := by simpa using hfk
              have HFK := hid hfk
              clear hfk
              go_wp2_with (first | (go_at_call 82; refine (name_any HS.out).mono ?_; rintro e w' ⟨rfl, rfl⟩; rw [hb]) | (go_at_call 65; refine (find_any (HV.out.on HE.out)).mono ?_; rintro e w' ⟨rfl, hbl⟩; rw [HF.out]; obtain ⟨hcc, hff⟩ := bcell hbl))
              go_ret
              exact ⟨ret_bool ((colsB_bad hkc (by rw [HCC.out]; exact colOk_find (by rw [HF.out]; exact HFK.out))).symm.trans HR.out), below_on HE.out hbl⟩
        · have hks : k = n := by omega
          subst hks
          go_wp2
          go_ret
          exact ⟨ret_bool ((colsB_yes (by rw [HN.out]; omega) (by rw [HN.out]; exact HA.out)).symm.trans HR.out), HB.out⟩

abbrev vc (x : Vl) : Array Value := #[.int .i64 x.k, .int .i64 x.n, .string x.s, .int .i64 x.h0, .int .i64 x.h1, .int .i64 x.h2, .int .i64 x.h3, .int .i64 x.h4, .int .i64 x.h5, .int .i64 x.h6, .int .i64 x.h7]
theorem fit_no {k : Int} {v : Vl} (h : ¬ v.k = k) : fitB k v = false := by simp [fitB, h]
theorem fit_is {k : Int} {v : Vl} (h : v.k = k) : fitB k v = validL v := by simp [fitB, h]
theorem valid_is {x : Vl} {r : Bool} {w : World} (h : validL x = r) : Calls Try.prog 83 #[x.val] w fun e w' => e = .returned (.bool r) ∧ Below w.heap.size w w' := by rw [← h]; exact valid_any
set_option maxHeartbeats 1000000 in
theorem rowFits_any {u v : Value} {cs : List Cl} {r : Rw} {w : World} (hu : RowAt w u r) (hv : ColsAt w v cs) :
    Calls Try.prog 64 #[u, v] w fun e w' => e = .returned (.bool (rowB cs r)) ∧ Below w.heap.size w w' := by
  obtain ⟨p, cap, rfl, hcap, hmax, hx⟩ := hu
  obtain ⟨p', cap', rfl, hcap', hmax', hx'⟩ := hv
  unfold maxLen at hmax hmax'
  generalize hr : rowB cs r = res
  have HR := hid hr
  have HX := hid hx
  have HX' := hid hx'
  clear hr hx hx'
  generalize hn : r.length = n at *
  generalize hn' : cs.length = n' at *
  have HN := hid hn
  have HN' := hid hn'
  clear hn hn'
  by_cases he : n = n'
  · subst he
    go_enter Try.func64, Try.ntmps64
    go_wp2
    go_loopw [6, 14] (fun _ i wr => ∃ k : Nat, k ≤ n ∧ i = .int .i64 k ∧ Hid (Below w.heap.size w wr) ∧ Hid (∀ j, j < k → fitB cs[j]!.kd r[j]! = true)) (fun _ i _ => n - (intOf i).toNat)
    case atStart => exact ⟨0, by omega, rfl, Below.refl _ _, fun j h => absurd h (Nat.not_lt_zero _)⟩
    case round =>
      obtain ⟨k, hk, rfl, HB, HA⟩ := hrel
      by_cases hlt : k < n
      · have hkr : k < r.length := by rw [HN.out]; exact hlt
        have hkc : k < cs.length := by rw [HN'.out]; exact hlt
        obtain ⟨b, o, rfl, -, hj⟩ := HX.out (by intro e; subst e; simp at hkr)
        obtain ⟨b', o', rfl, -, hj'⟩ := HX'.out (by intro e; subst e; simp at hkc)
        obtain ⟨c0, c1, c2, c3, c4, c5, c6, c7, c8, c9, c10⟩ := val_cells ((hj k _ (get!_some hkr)).on HB.out)
        obtain ⟨-, d1⟩ := col_cells ((hj' k _ (get!_some hkc)).on HB.out)
        have hb0 := block_lt_of_cell c0
        have hb1 := block_lt_of_cell d1
        generalize hcc : cs[k]! = c at d1
        generalize hvv : r[k]! = x at c0 c1 c2 c3 c4 c5 c6 c7 c8 c9 c10
        have HCC := hid hcc
        have HVV := hid hvv
        clear hcc hvv hj hj'
        have hsz : w.heap.size ≤ wr.heap.size := HB.out.size
        by_cases hkd : x.k = c.kd
        · have hkd' := hkd
          have hne : (x.k != c.kd) = false := by simpa using hkd
          have HKD := hid hkd
          clear hkd hkd'
          cases hval : validL x with
          | true =>
            go_wp2_with fail
            have KW := hid (alloc_block wr (.cells (vc x) 40))
            have D1 := hid (Lib.cell?_alloc_some (.cells (vc x) 40) d1)
            have HE := hid (HB.out.alloc hsz (.cells (vc x) 40))
            clear c0 c1 c2 c3 c4 c5 c6 c7 c8 c9 c10 d1 hb0 hb1
            generalize (wr.alloc (.cells (vc x) 40)) = W at *
            generalize wr.heap.size = B at *
            have q0 : ∀ d os i, (grow (redrawn W d) os).cell? ⟨B, i, none⟩ = (vc x)[i]? := fun d os i => block_cell (block_on KW.out (below_regrown W d os)) i
            have q1 : ∀ d os, (grow (redrawn W d) os).cell? ⟨b', o' + k * 2 + 1, none⟩ = some (.int .i64 c.kd) := fun d os => cell_regrown D1.out d os
            refine wp_region_quiet_below (by kernel_rfl) (by kernel_rfl) ?_
            repeat (go_big_quiet_step (first | (go_at_call 83; exact Calls.regrown_of (valid_is hval))))
            refine wpQuiet_nil ?_
            intro _ hw'
            obtain ⟨⟨dq, osq⟩, hw''⟩ := hw'
            subst hw''
            go_wp2
            go_roundw
            case rel =>
              refine ⟨k + 1, by omega, by go_num, below_on HE.out (below_regrown W dq osq), fun j h => ?_⟩
              by_cases e : j = k
              · subst e; rw [HCC.out, HVV.out, fit_is HKD.out]; exact hval
              · exact HA.out j (by omega)
            case measure => simp [intOf]; omega
          | false =>
            go_wp2_with fail
            have KW := hid (alloc_block wr (.cells (vc x) 40))
            have D1 := hid (Lib.cell?_alloc_some (.cells (vc x) 40) d1)
            have HE := hid (HB.out.alloc hsz (.cells (vc x) 40))
            clear c0 c1 c2 c3 c4 c5 c6 c7 c8 c9 c10 d1 hb0 hb1
            generalize (wr.alloc (.cells (vc x) 40)) = W at *
            generalize wr.heap.size = B at *
            have q0 : ∀ d os i, (grow (redrawn W d) os).cell? ⟨B, i, none⟩ = (vc x)[i]? := fun d os i => block_cell (block_on KW.out (below_regrown W d os)) i
            have q1 : ∀ d os, (grow (redrawn W d) os).cell? ⟨b', o' + k * 2 + 1, none⟩ = some (.int .i64 c.kd) := fun d os => cell_regrown D1.out d os
            refine wp_region_quiet_below (by kernel_rfl) (by kernel_rfl) ?_
            repeat (go_big_quiet_step (first | (go_at_call 83; exact Calls.regrown_of (valid_is hval))))
            refine wpQuiet_nil ?_
            intro _ hw'
            obtain ⟨⟨dq, osq⟩, hw''⟩ := hw'
            subst hw''
            go_wp2
            go_ret
            exact ⟨ret_bool ((rowB_bad hkr (by rw [HCC.out, HVV.out, fit_is HKD.out]; exact hval)).symm.trans HR.out), below_on HE.out (below_regrown W dq osq)⟩
        · have hne : (x.k != c.kd) = true := by simpa using hkd
          have HKD := hid hkd
          clear hkd
          go_wp2_with fail
          have KW := hid (alloc_block wr (.cells (vc x) 40))
          have D1 := hid (Lib.cell?_alloc_some (.cells (vc x) 40) d1)
          have HE := hid (HB.out.alloc hsz (.cells (vc x) 40))
          clear c0 c1 c2 c3 c4 c5 c6 c7 c8 c9 c10 d1 hb0 hb1
          generalize (wr.alloc (.cells (vc x) 40)) = W at *
          generalize wr.heap.size = B at *
          have q0 : ∀ d os i, (grow (redrawn W d) os).cell? ⟨B, i, none⟩ = (vc x)[i]? := fun d os i => block_cell (block_on KW.out (below_regrown W d os)) i
          have q1 : ∀ d os, (grow (redrawn W d) os).cell? ⟨b', o' + k * 2 + 1, none⟩ = some (.int .i64 c.kd) := fun d os => cell_regrown D1.out d os
          refine wp_region_quiet_below (by kernel_rfl) (by kernel_rfl) ?_
          repeat (go_big_quiet_step (fail))
          refine wpQuiet_nil ?_
          intro _ hw'
          obtain ⟨⟨dq, osq⟩, hw''⟩ := hw'
          subst hw''
          go_wp2
          go_ret
          exact ⟨ret_bool ((rowB_bad hkr (by rw [HCC.out, HVV.out]; exact fit_no HKD.out)).symm.trans HR.out), below_on HE.out (below_regrown W dq osq)⟩
      · have hks : k = n := by omega
        subst hks
        go_wp2
        go_ret
        exact ⟨ret_bool ((rowB_yes (by rw [HN.out, HN'.out]) (by rw [HN.out]; exact HA.out)).symm.trans HR.out), HB.out⟩
  · have hne : ((n : Int) != (n' : Int)) = true := by simp; omega
    go_enter Try.func64, Try.ntmps64
    go_wp2
    go_ret
    exact ⟨ret_bool ((rowB_no (by rw [HN.out, HN'.out]; exact he)).symm.trans HR.out), Below.refl _ _⟩
end Go.Proofs.Ytjekpclbedbaoaa.TN
namespace Go.Proofs.Ytjekpclbedbaoaa.TN
open Go.RowKit Go.Sort Go.Shelf

theorem head_cell {w : World} {b o : Nat} {hs : List Value} (h : ∀ (j : Nat) x, hs[j]? = some x → CellsAt w b (o + j * 1) (one x)) {k : Nat} {x : Value} (hk : hs[k]? = some x) : w.cell? ⟨b, o + k, none⟩ = some x := by
  have := h k x hk 0 x rfl
  simpa using this
theorem check_cols {cs : List Cl} {rs : List Rw} (h : colsB cs = false) : checkV cs rs = 20 := by simp [checkV, h]
theorem check_bad {cs : List Cl} {rs : List Rw} (h : colsB cs = true) {k : Nat} (hk : k < rs.length) (hb : rowB cs rs[k]! = false) : checkV cs rs = 21 := by
  unfold checkV
  rw [if_pos h, if_neg]
  intro ha
  rw [List.all_eq_true] at ha
  have := ha rs[k]! (List.mem_of_getElem? (get!_some hk))
  rw [hb] at this; cases this
theorem check_ok {cs : List Cl} {rs : List Rw} (h : colsB cs = true) (ha : ∀ k, k < rs.length → rowB cs rs[k]! = true) : checkV cs rs = 0 := by
  unfold checkV
  rw [if_pos h, if_pos]
  rw [List.all_eq_true]
  intro r hr
  obtain ⟨i, hi⟩ := List.getElem?_of_mem hr
  have hl : i < rs.length := (List.getElem?_eq_some_iff.1 hi).1
  have := ha i hl
  have e := get!_some hl
  rw [hi] at e; injection e with e; rw [e]; exact this
theorem colsB_any {v : Value} {cs : List Cl} {r : Bool} {w : World} (hv : ColsAt w v cs) (h : colsB cs = r) :
    Calls Try.prog 63 #[v] w fun e w' => e = .returned (.bool r) ∧ Below w.heap.size w w' := by rw [← h]; exact cols_any hv
theorem rowB_any {u v : Value} {cs : List Cl} {r : Rw} {res : Bool} {w : World} (hu : RowAt w u r) (hv : ColsAt w v cs) (h : rowB cs r = res) :
    Calls Try.prog 64 #[u, v] w fun e w' => e = .returned (.bool res) ∧ Below w.heap.size w w' := by rw [← h]; exact rowFits_any hu hv
set_option maxHeartbeats 1000000 in
theorem check_any {v : Value} {cs : List Cl} {rs : List Rw} {w : World} (hv : TabAt w v cs rs) :
    Calls Try.prog 37 #[v] w fun e w' => e = .returned (.int .i64 (checkV cs rs)) ∧ Below w.heap.size w w' := by
  obtain ⟨c, rv, rfl, hc, hs, hrs, hh⟩ := hv
  obtain ⟨p, cap, rfl, hcap, hmax, hx⟩ := hrs
  unfold maxLen at hmax
  generalize hr : checkV cs rs = res
  have HR := hid hr
  have HX := hid hx
  have HC := hid hc
  have HH := hid hh
  clear hr hx hc hh
  generalize hn : hs.length = n at *
  have HN := hid hn
  clear hn
  have HE : Hid (Below w.heap.size w (w.alloc (.cells #[c, .slice p n cap] 25))) := (Below.refl _ _).alloc (Nat.le_refl _) _
  have KB := hid (alloc_block w (.cells #[c, .slice p n cap] 25))
  cases hb : colsB cs with
  | false =>
    go_enter Try.func37, Try.ntmps37
    go_wp2_with (first | (go_at_call 63; refine (colsB_any (HC.out.on HE.out) hb).mono ?_; rintro e w1 ⟨rfl, hb1⟩))
    go_ret
    exact ⟨ret_int ((check_cols hb).symm.trans HR.out), below_on HE.out hb1⟩
  | true =>
    go_enter Try.func37, Try.ntmps37
    go_wp2_with (first | (go_at_call 63; refine (colsB_any (HC.out.on HE.out) hb).mono ?_; rintro e w1 ⟨rfl, hb1⟩; have HB1 := hid (below_on HE.out hb1); have KB1 := hid (block_on KB.out hb1); have kb1 := block_cell KB1.out; clear hb1))
    clear kb1
    go_loopw [12] (fun i wr => ∃ k : Nat, k ≤ n ∧ i = .int .i64 k ∧ Hid (Below w.heap.size w wr) ∧ Hid (wr.heap[w.heap.size]? = some (.cells #[c, .slice p n cap] 25)) ∧ Hid (∀ j, j < k → rowB cs rs[j]! = true)) (fun i _ => n - (intOf i).toNat)
    case atStart => exact ⟨0, by omega, rfl, HB1.out, KB1.out, fun j h => absurd h (Nat.not_lt_zero _)⟩
    case round =>
      obtain ⟨k, hk, rfl, HB, HK, HA⟩ := hrel
      have kb := block_cell HK.out
      by_cases hlt : k < n
      · have hkh : k < hs.length := by rw [HN.out]; exact hlt
        have hkr : k < rs.length := by rw [← HH.out.1]; exact hkh
        obtain ⟨b, o, rfl, -, hj⟩ := HX.out (by intro e; subst e; simp at hkh)
        have hd := head_cell (fun j x hjx => (hj j x hjx).on HB.out) (get!_some hkh)
        have HRow := hid ((HH.out.2 k _ _ (get!_some hkh) (get!_some hkr)).on HB.out)
        generalize hs[k]! = hd0 at hd HRow
        clear hj
        cases hrb : rowB cs rs[k]! with
        | true =>
          go_wp2_with (first | (go_at_call 64; refine (rowB_any HRow.out (HC.out.on HB.out) hrb).mono ?_; rintro e w2 ⟨rfl, hb2⟩))
          go_roundw
          case rel =>
            refine ⟨k + 1, by omega, by go_num, below_on HB.out hb2, block_on HK.out hb2, fun j h => ?_⟩
            by_cases e : j = k
            · subst e; exact hrb
            · exact HA.out j (by omega)
          case measure => simp [intOf]; omega
        | false =>
          go_wp2_with (first | (go_at_call 64; refine (rowB_any HRow.out (HC.out.on HB.out) hrb).mono ?_; rintro e w2 ⟨rfl, hb2⟩))
          go_ret
          exact ⟨ret_int ((check_bad hb hkr hrb).symm.trans HR.out), below_on HB.out hb2⟩
      · have hks : k = n := by omega
        subst hks
        go_wp2
        go_ret
        exact ⟨ret_int ((check_ok hb (by rw [← HH.out.1, HN.out]; exact HA.out)).symm.trans HR.out), HB.out⟩
end Go.Proofs.Ytjekpclbedbaoaa.TN
