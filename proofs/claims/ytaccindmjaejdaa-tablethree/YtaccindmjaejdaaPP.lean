/-
  The document's examples as plain data: what each of them comes to.
  What the statements' own shown (the document's examples) returns.
-/
import Derived.Test.YtaccindmjaejdaaPF
import Derived.Test.YtaccindmjaejdaaPO
import Derived.Test.YtaccindmjaejdaaQKeep
import Derived.Test.YtaccindmjaejdaaQUnion
namespace Go.Proofs.Ytaccindmjaejdaa
open Go.RowKit Go.Sort Go.Shelf

def cols0 : List Cl := [cK, cN]
def rowsA : List Rw := (List.range 3).map (rowS ⟨#[98, 97, 97]⟩ [1, 2, 1])
def rowsB : List Rw := (List.range 3).map (rowS ⟨#[97, 97, 98]⟩ [1, 2, 1])
def nmN : ByteArray := ⟨#[110]⟩
def nmX : ByteArray := ⟨#[120]⟩
def vSt (c : UInt8) : Vl := ⟨2, 0, ⟨#[c]⟩, 0, 0, 0, 0, 0, 0, 0, 0, by unfold maxLen; simp [ByteArray.size]⟩
theorem find_n : findC cols0 nmN = 1 := by kernel_rfl
theorem find_x : findC cols0 nmX = -1 := by kernel_rfl
theorem name_1 : nameB ⟨#[97, 35, 98]⟩ = true := by kernel_rfl
theorem name_2 : nameB ⟨#[57]⟩ = false := by kernel_rfl
theorem name_3 : nameB ⟨#[]⟩ = false := by kernel_rfl
theorem check_twice : checkV [cK, cK] [] = 20 := by kernel_rfl
theorem check_short : checkV cols0 [[vSt 97]] = 21 := by kernel_rfl
theorem check_A : checkV cols0 rowsA = 0 := by kernel_rfl
theorem places_n : places cols0 [nmN] [] = [1] := by kernel_rfl
theorem row_at (s : ByteArray) (ns : List Int) (i : Nat) {c : UInt8} (h : s.extract i (i + 1) = ⟨#[c]⟩) : rowS s ns i = [vSt c, vInt ns[i]!] := by
  unfold rowS vS vSt
  simp only [h]
theorem rowsA_is : rowsA = [[vSt 98, vInt 1], [vSt 97, vInt 2], [vSt 97, vInt 1]] := by
  show [rowS _ _ 0, rowS _ _ 1, rowS _ _ 2] = _
  rw [row_at (c := 98) _ _ 0 (by kernel_rfl), row_at (c := 97) _ _ 1 (by kernel_rfl), row_at (c := 97) _ _ 2 (by kernel_rfl)]; rfl
theorem rowsB_is : rowsB = [[vSt 97, vInt 1], [vSt 97, vInt 2], [vSt 98, vInt 1]] := by
  show [rowS _ _ 0, rowS _ _ 1, rowS _ _ 2] = _
  rw [row_at (c := 97) _ _ 0 (by kernel_rfl), row_at (c := 97) _ _ 1 (by kernel_rfl), row_at (c := 98) _ _ 2 (by kernel_rfl)]; rfl
theorem up3 {x y z : Rw} (h1 : cmpR x y ≤ 0) (h2 : cmpR x z ≤ 0) (h3 : cmpR y z ≤ 0) : upR [x, y, z] := by
  unfold upR
  simp [h1, h2, h3]
theorem canon_A : sortR rowsA = rowsB := by
  rw [rowsA_is, rowsB_is]
  exact (sortR_of (up3 (by rw [show cmpR [vSt 97, vInt 1] [vSt 97, vInt 2] = -1 by kernel_rfl]; decide) (by rw [show cmpR [vSt 97, vInt 1] [vSt 98, vInt 1] = -1 by kernel_rfl]; decide) (by rw [show cmpR [vSt 97, vInt 2] [vSt 98, vInt 1] = -1 by kernel_rfl]; decide)) (List.reverse_perm [[vSt 98, vInt 1], [vSt 97, vInt 2], [vSt 97, vInt 1]])).symm
theorem keepE_A : keepE cols0 rowsA [nmN] = 0 := by unfold keepE; rw [check_A, places_n]; rfl
theorem keepC_A : keepC cols0 rowsA [nmN] = [cN] := by unfold keepC; rw [keepE_A, places_n]; rfl
theorem keepR_A : keepR cols0 rowsA [nmN] = [[vInt 1], [vInt 1], [vInt 2]] := by
  unfold keepR
  rw [keepE_A, places_n, rowsA_is, if_pos rfl]
  show sortR [[vInt 1], [vInt 2], [vInt 1]] = _
  exact (sortR_of (up3 (by rw [show cmpR [vInt 1] [vInt 1] = 0 by kernel_rfl]; decide) (by rw [show cmpR [vInt 1] [vInt 2] = -1 by kernel_rfl]; decide) (by rw [show cmpR [vInt 1] [vInt 2] = -1 by kernel_rfl]; decide)) (List.Perm.cons _ (List.Perm.swap _ _ _))).symm
theorem unionE_A : unionE cols0 rowsA cols0 rowsA = 0 := by unfold unionE; rw [check_A]; rfl
theorem unionR_A : (unionR cols0 rowsA cols0 rowsA).length = 6 := by
  unfold unionR
  rw [unionE_A, if_pos rfl, sortR_length, rowsA_is]
  rfl
end Go.Proofs.Ytaccindmjaejdaa
namespace Go.Proofs.Ytaccindmjaejdaa
open Go.RowKit Go.Sort Go.Shelf

theorem smallA_any {u : Value} {w : World} (hu : SlAt any encI 1 w u [1, 2, 1]) : Calls Try.prog 30 #[.string ⟨#[98, 97, 97]⟩, u] w fun e w' => ∃ v', e = .returned v' ∧ TabAt w' v' cols0 rowsA ∧ Below w.heap.size w w' :=
  (small_any hu rfl rfl).mono fun _ _ ⟨v, he, ht, hb⟩ => ⟨v, he, ht.at, hb⟩
theorem smallB_any {u : Value} {w : World} (hu : SlAt any encI 1 w u [1, 2, 1]) : Calls Try.prog 30 #[.string ⟨#[97, 97, 98]⟩, u] w fun e w' => ∃ v', e = .returned v' ∧ TabAt w' v' cols0 rowsB ∧ Below w.heap.size w w' :=
  (small_any hu rfl rfl).mono fun _ _ ⟨v, he, ht, hb⟩ => ⟨v, he, ht.at, hb⟩
theorem three_sl (w : World) : SlAt any encI 1 (w.alloc (.cells #[.int .i64 1, .int .i64 2, .int .i64 1] 3)) (.slice (some ⟨w.heap.size, 0, none⟩) 3 3) [1, 2, 1] :=
  SlAt.imp (lit_sl (enc := encI) (k := 1) (xs := [1, 2, 1]) (alloc_block w _) (fun _ => rfl) rfl rfl (Nat.le_refl _) (by decide)) (fun _ _ => trivial)
theorem TabAt.form {w : World} {v : Value} {cs : List Cl} {rs : List Rw} {n m : Nat} (h : TabAt w v cs rs) (hn : cs.length = n) (hm : rs.length = m) : ∃ pc capc pr capr, v = .agg #[.slice pc n capc, .slice pr m capr] := by
  subst hn hm
  obtain ⟨c, r, rfl, ⟨pc, capc, rfl, -⟩, hs, ⟨pr, capr, rfl, -⟩, hh⟩ := h
  exact ⟨pc, capc, pr, capr, by rw [hh.1]⟩
theorem canonA_any {v : Value} {w : World} (hv : TabAt w v cols0 rowsA) : Calls Try.prog 31 #[v] w fun e w' => ∃ v', e = .returned v' ∧ TabAt w' v' cols0 rowsB ∧ Below w.heap.size w w' :=
  (canon_any hv).mono fun _ _ ⟨v, he, ht, hb⟩ => ⟨v, he, by rw [canon_A] at ht; exact ht.at, hb⟩
theorem keepA_any {v nv : Value} {w : World} (hv : TabAt w v cols0 rowsA) (hn : NamesAt w nv [nmN]) : Calls Try.prog 16 #[v, nv] w fun e w' => ∃ v', e = .returned (.tuple #[v', .int .i64 0]) ∧ TabAt w' v' [cN] [[vInt 1], [vInt 1], [vInt 2]] ∧ Below w.heap.size w w' :=
  (keep_any hv hn (by decide)).mono fun _ _ ⟨v, he, ht, hb⟩ => ⟨v, by rw [keepE_A] at he; exact he, by rw [keepC_A, keepR_A] at ht; exact ht.at, hb⟩
theorem unionA_any {v : Value} {w : World} (hv : TabAt w v cols0 rowsA) : Calls Try.prog 19 #[v, v] w fun e w' => ∃ v', e = .returned (.tuple #[v', .int .i64 0]) ∧ (∃ cs rs, rs.length = 6 ∧ TabAt w' v' cs rs) ∧ Below w.heap.size w w' :=
  (union_any hv hv (by decide)).mono fun _ _ ⟨v, he, ht, hb⟩ => ⟨v, by rw [unionE_A] at he; exact he, ⟨_, _, unionR_A, ht.at⟩, hb⟩
theorem three_sl' (w : World) (x : Obj) : SlAt any encI 1 ((w.alloc x).alloc (.cells #[.int .i64 1, .int .i64 2, .int .i64 1] 3)) (.slice (some ⟨w.heap.size + 1, 0, none⟩) 3 3) [1, 2, 1] :=
  SlAt.imp (lit_sl (enc := encI) (k := 1) (xs := [1, 2, 1]) (alloc_blk2' w x _) (fun _ => rfl) rfl rfl (Nat.le_refl _) (by decide)) (fun _ _ => trivial)
theorem name_sl' (w : World) (x : Obj) : NamesAt ((w.alloc x).alloc (.cells #[.string ⟨#[110]⟩] 9)) (.slice (some ⟨w.heap.size + 1, 0, none⟩) 1 1) [nmN] :=
  SlAt.imp (lit_sl (enc := encS) (k := 1) (xs := [nmN]) (alloc_blk2' w x _) (fun _ => rfl) rfl rfl (Nat.le_refl _) (by decide)) (fun _ _ => trivial)
theorem below_3 (w : World) (x y z : Obj) : Below w.heap.size w (((w.alloc x).alloc y).alloc z) := (below_aa w x y).alloc (by simp; omega) z
theorem below_6 (w : World) (a b c d e f : Obj) : Below w.heap.size w ((((((w.alloc a).alloc b).alloc c).alloc d).alloc e).alloc f) := (((below_3 w a b c).alloc (by simp; omega) d).alloc (by simp; omega) e).alloc (by simp; omega) f
theorem blk_on {w : World} {b : Nat} {o : Obj} (h : w.heap[b]? = some o) (x : Obj) : (w.alloc x).heap[b]? = some o := block_on h ((Below.refl _ _).alloc (Nat.le_refl _) x)
theorem six0 (w : World) (a b c d e f : Obj) : ((((((w.alloc a).alloc b).alloc c).alloc d).alloc e).alloc f).heap[w.heap.size]? = some a := by
  have h := alloc_block w a
  exact blk_on (blk_on (blk_on (blk_on (blk_on h b) c) d) e) f
theorem six1 (w : World) (a b c d e f : Obj) : ((((((w.alloc a).alloc b).alloc c).alloc d).alloc e).alloc f).heap[w.heap.size + 1]? = some b := by
  have h := alloc_block (w.alloc a) b
  simp only [World.size_alloc] at h
  exact blk_on (blk_on (blk_on (blk_on h c) d) e) f
theorem six2 (w : World) (a b c d e f : Obj) : ((((((w.alloc a).alloc b).alloc c).alloc d).alloc e).alloc f).heap[w.heap.size + 1 + 1]? = some c := by
  have h := alloc_block ((w.alloc a).alloc b) c
  simp only [World.size_alloc] at h
  exact blk_on (blk_on (blk_on h d) e) f
theorem six3 (w : World) (a b c d e f : Obj) : ((((((w.alloc a).alloc b).alloc c).alloc d).alloc e).alloc f).heap[w.heap.size + 1 + 1 + 1]? = some d := by
  have h := alloc_block (((w.alloc a).alloc b).alloc c) d
  simp only [World.size_alloc] at h
  exact blk_on (blk_on h e) f
theorem six4 (w : World) (a b c d e f : Obj) : ((((((w.alloc a).alloc b).alloc c).alloc d).alloc e).alloc f).heap[w.heap.size + 1 + 1 + 1 + 1]? = some e := by
  have h := alloc_block ((((w.alloc a).alloc b).alloc c).alloc d) e
  simp only [World.size_alloc] at h
  exact blk_on h f
theorem six5 (w : World) (a b c d e f : Obj) : ((((((w.alloc a).alloc b).alloc c).alloc d).alloc e).alloc f).heap[w.heap.size + 1 + 1 + 1 + 1 + 1]? = some f := by
  have h := alloc_block (((((w.alloc a).alloc b).alloc c).alloc d).alloc e) f
  simp only [World.size_alloc] at h
  exact h
/- What is read of the kept table: the third row's one number. -/
theorem third_row {w : World} {c : Value} {pr : Option Addr} {cap : Nat} (h : TabAt w (.agg #[c, .slice pr 3 cap]) [cN] [[vInt 1], [vInt 1], [vInt 2]]) :
    ∃ b o b' o' cap', pr = some ⟨b, o, none⟩ ∧ w.cell? ⟨b, o + 2, none⟩ = some (.slice (some ⟨b', o', none⟩) 1 cap') ∧ w.cell? ⟨b', o' + 1, none⟩ = some (.int .i64 2) := by
  obtain ⟨c', r, hv, hc, hs, ⟨p, cap2, rfl, -, -, hx⟩, hh⟩ := h
  injection hv with hv
  injection hv with hv
  injection hv with _ hv
  injection hv with hv _
  injection hv with e1 e2 e3
  subst e1
  have hl : hs.length = 3 := e2.symm
  obtain ⟨b, o, hp, -, hj⟩ := hx (by intro e; subst e; simp at hl)
  have h2 : hs[2]? = some hs[2] := List.getElem?_eq_getElem (by omega)
  have hd := head_cell hj h2
  obtain ⟨p', cap', hv', -, -, hx'⟩ := hh.2 2 _ [vInt 2] h2 rfl
  obtain ⟨b', o', hp', -, hj'⟩ := hx' (by simp)
  subst hp'
  refine ⟨b, o, b', o', cap', hp, ?_, ?_⟩
  · rw [hd, hv']; rfl
  · have := hj' 0 (vInt 2) rfl 1 (.int .i64 2) rfl
    simpa using this
theorem tab_twice {w : World} {b : Nat} (h : w.heap[b]? = some (.cells #[.string ⟨#[107]⟩, .int .i64 2, .string ⟨#[107]⟩, .int .i64 2] 32 (0, 0))) : TabAt w (.agg #[.slice (some ⟨b, 0, none⟩) 2 2, .slice none 0 0]) [cK, cK] [] :=
  ⟨_, _, rfl, SlAt.imp (lit_sl (enc := Cl.cells) (k := 2) (xs := [cK, cK]) h cl_len rfl rfl (Nat.le_refl _) (by decide)) (fun _ _ => trivial), [], SlAt.nil _ _ _ _, ⟨rfl, fun j h r h1 _ => by simp at h1⟩⟩
theorem tab_short {w : World} {b g : Nat} {c : Value} (hc : ColsAt w c cols0) (h : w.heap[b]? = some (.cells #[.int .i64 2, .int .i64 0, .string ⟨#[97]⟩, .int .i64 0, .int .i64 0, .int .i64 0, .int .i64 0, .int .i64 0, .int .i64 0, .int .i64 0, .int .i64 0] 44 (0, 0))) (hg : w.heap[g]? = some (.cells #[.slice (some ⟨b, 0, none⟩) 1 1] 57 (0, 0))) : TabAt w (.agg #[c, .slice (some ⟨g, 0, none⟩) 1 1]) cols0 [[vSt 97]] := by
  refine ⟨_, _, rfl, hc, [.slice (some ⟨b, 0, none⟩) 1 1], SlAt.imp (lit_sl (enc := one) (k := 1) (xs := [.slice (some ⟨b, 0, none⟩) 1 1]) hg one_len rfl rfl (Nat.le_refl _) (by simp)) (fun _ _ => trivial), ⟨rfl, fun j x r h1 h2 => ?_⟩⟩
  have hj : j = 0 := by have := (List.getElem?_eq_some_iff.1 h1).1; simpa using this
  subst hj
  simp at h1 h2
  subst h1 h2
  exact SlAt.imp (lit_sl (enc := Vl.cells) (k := 11) (xs := [vSt 97]) h vl_len rfl rfl (Nat.le_refl _) (by decide)) (fun _ _ => trivial)
theorem TabAt.cols {w : World} {c r : Value} {cs : List Cl} {rs : List Rw} (h : TabAt w (.agg #[c, r]) cs rs) : ColsAt w c cs := by
  obtain ⟨c', r', hv, hc, _⟩ := h
  injection hv with hv
  injection hv with hv
  injection hv with e _
  subst e
  exact hc
theorem sameB_any {u v : Value} {w : World} (hu : TabAt w u cols0 rowsB) (hv : TabAt w v cols0 rowsB) : Calls Try.prog 32 #[u, v] w fun e w' => e = .returned (.bool true) ∧ Below w.heap.size w w' :=
  (same_any hu hv).mono fun _ _ ⟨he, hb⟩ => ⟨by rw [he]; exact ret_bool (by simp), hb⟩
theorem name_is {s : ByteArray} {r : Bool} {w : World} (hs : s.size ≤ maxLen) (h : nameB s = r) : Calls Try.prog 34 #[.string s] w fun e w' => e = .returned (.bool r) ∧ w' = w := by rw [← h]; exact name_any hs
theorem find_it {v : Value} {cs : List Cl} {nm : ByteArray} {r : Int} {w : World} (hv : ColsAt w v cs) (h : findC cs nm = r) : Calls Try.prog 35 #[v, .string nm] w fun e w' => e = .returned (.int .i64 r) ∧ Below w.heap.size w w' := by rw [← h]; exact find_any hv
theorem nm_small (s : ByteArray) (h : s.size ≤ 3) : s.size ≤ maxLen := by unfold maxLen; omega
set_option maxRecDepth 100000 in
set_option maxHeartbeats 400000 in
theorem shown_any {w : World} : Calls Try.prog 13 #[] w fun e w' => e = .returned (.bool true) ∧ Below w.heap.size w w' := by
  have al := fun (W : World) (o : Obj) => (Below.refl W.heap.size W).alloc (Nat.le_refl _) o
  have al2 := below_aa
  have AL := hid al
  have AL2 := hid al2
  clear al al2
  go_enter Try.func13, Try.ntmps13
  have M1 : Hid True := trivial
  have M2 : Hid True := trivial
  have M3 : Hid True := trivial
  have M4 : Hid True := trivial
  have M5 : Hid True := trivial
  have M6 : Hid True := trivial
  have M7 : Hid True := trivial
  have M8 : Hid True := trivial
  have M9 : Hid True := trivial
  go_wp2_with (first
    | (go_at_call 30; clear M1; refine (smallA_any (three_sl _)).mono ?_; rintro e w1 ⟨v1, rfl, ht1, hb1⟩; obtain ⟨pc1, capc1, pr1, capr1, rfl⟩ := ht1.form (n := 2) (m := 3) rfl rfl; have HT1 := hid ht1; have HB1 := hid (below_on (AL.out _ _) hb1); clear ht1 hb1)
    | (go_at_call 30; clear M2; refine (smallB_any (three_sl' _ _)).mono ?_; rintro e w2 ⟨v2, rfl, ht2, hb2⟩; obtain ⟨pc2, capc2, pr2, capr2, rfl⟩ := ht2.form (n := 2) (m := 3) rfl rfl; have HT2 := hid ht2; have HB2 := hid (below_on (AL2.out _ _ _) hb2); have K1 := hid (block_on (alloc_blk1' w1 _ _) hb2); have l1 := lt_of_block K1.out; have k1 := block_cell K1.out; clear ht2 hb2)
    | (go_at_call 31; refine (canonA_any (HT1.out.on (below_on HB2.out (AL.out _ _)))).mono ?_; rintro e w3 ⟨v3, rfl, ht3, hb3⟩; obtain ⟨pc3, capc3, pr3, capr3, rfl⟩ := ht3.form (n := 2) (m := 3) rfl rfl; have HT3 := hid ht3; have HB3 := hid (below_on (AL.out _ _) hb3); have K13 := hid (block_on K1.out HB3.out); have K2 := hid (block_on (alloc_block w2 _) hb3); clear k1 l1; have l1 := lt_of_block K13.out; have l2 := lt_of_block K2.out; have k1 := block_cell K13.out; clear ht3 hb3)
    | (go_at_call 16; refine (keepA_any (HT1.out.on (below_on (below_on HB2.out HB3.out) (AL2.out _ _ _))) (name_sl' _ _)).mono ?_; rintro e w4 ⟨v4, rfl, ht4, hb4⟩; obtain ⟨pc4, capc4, pr4, capr4, rfl⟩ := ht4.form (n := 1) (m := 3) rfl rfl; have HT4 := hid ht4; have HB4 := hid (below_on (AL2.out _ _ _) hb4); have K14 := hid (block_on K13.out HB4.out); have K24 := hid (block_on K2.out HB4.out); have K3 := hid (block_on (alloc_blk1' w3 _ _) hb4); clear k1 l1 l2; have l1 := lt_of_block K14.out; have k13 := fun A B C => block_cell (block_on K14.out (below_3 w4 A B C)); have k16 := fun A B C D E F => block_cell (block_on K14.out (below_6 w4 A B C D E F)); clear ht4 hb4)
    | (go_at_call 19; refine (unionA_any (HT1.out.on (below_on (below_on (below_on HB2.out HB3.out) HB4.out) (below_6 _ _ _ _ _ _ _)))).mono ?_; rintro e w5 ⟨v5, rfl, ⟨cs5, rs5, hl5, ht5⟩, hb5⟩; obtain ⟨pc5, capc5, pr5, capr5, rfl⟩ := ht5.form rfl hl5; have HB5 := hid (below_on (below_6 _ _ _ _ _ _ _) hb5); have G0 := hid (block_on (six0 w4 _ _ _ _ _ _) hb5); have G1 := hid (block_on (six1 w4 _ _ _ _ _ _) hb5); have G2 := hid (block_on (six2 w4 _ _ _ _ _ _) hb5); have G3 := hid (block_on (six3 w4 _ _ _ _ _ _) hb5); have G4 := hid (block_on (six4 w4 _ _ _ _ _ _) hb5); have G5 := hid (block_on (six5 w4 _ _ _ _ _ _) hb5); have K15 := hid (block_on K14.out HB5.out); have K25 := hid (block_on K24.out HB5.out); have K35 := hid (block_on K3.out HB5.out); clear k13 k16 l1 ht5 hb5; have l1 := lt_of_block K15.out; have l2 := lt_of_block K25.out; have l3 := lt_of_block K35.out; have k2 := block_cell K25.out; have k3 := block_cell K35.out)
    | (go_at_call 32; refine (sameB_any (HT3.out.on (below_on (below_on HB4.out HB5.out) (AL.out _ _))) (HT2.out.on (below_on (below_on (below_on HB3.out HB4.out) HB5.out) (AL.out _ _)))).mono ?_; rintro e w6 ⟨rfl, hb6⟩; have HB6 := hid (below_on (AL.out _ _) hb6); have K86 := hid (block_on (alloc_block w5 _) hb6); have K16 := hid (block_on K15.out HB6.out); have G06 := hid (block_on G0.out HB6.out); have G26 := hid (block_on G2.out HB6.out); have G56 := hid (block_on G5.out HB6.out); have TW := hid (tab_twice (block_on G1.out HB6.out)); have SH := hid (tab_short (TabAt.cols (HT1.out.on (below_on (below_on (below_on (below_on HB2.out HB3.out) HB4.out) HB5.out) HB6.out))) (block_on G3.out HB6.out) (block_on G4.out HB6.out)); obtain ⟨b4, o4, b5, o5, cap5, rfl, c4, c5⟩ := third_row (HT4.out.on (below_on HB5.out HB6.out)); clear k2 k3 l1 l2 l3 hb6; have g0 := block_cell G06.out; have g2 := block_cell G26.out)
    | (go_at_call 33; clear M3; refine (check_is TW.out check_twice).mono ?_; rintro e w7 ⟨rfl, hb7⟩; have HB7 := hid hb7; clear c4 c5 g0 g2 hb7; have G57 := hid (block_on G56.out HB7.out); have g5 := block_cell G57.out)
    | (go_at_call 33; clear M4; refine (check_is (SH.out.on HB7.out) check_short).mono ?_; rintro e w8 ⟨rfl, hb8⟩; have HB8 := hid (below_on HB7.out hb8); clear g5 hb8; have K18 := hid (block_on K16.out HB8.out); have k1 := block_cell K18.out)
    | (go_at_call 34; clear M5; refine (name_is (nm_small _ (by decide)) name_1).mono ?_; rintro e w' ⟨rfl, rfl⟩)
    | (go_at_call 34; clear M6; refine (name_is (nm_small _ (by decide)) name_2).mono ?_; rintro e w' ⟨rfl, rfl⟩)
    | (go_at_call 34; clear M7; refine (name_is (nm_small _ (by decide)) name_3).mono ?_; rintro e w' ⟨rfl, rfl⟩)
    | (go_at_call 35; clear M8; refine (find_it (TabAt.cols (SH.out.on HB8.out)) find_n).mono ?_; rintro e w9 ⟨rfl, hb9⟩; have HB9 := hid (below_on HB8.out hb9); clear k1 hb9; have K19 := hid (block_on K16.out HB9.out); have k1 := block_cell K19.out)
    | (go_at_call 35; clear M9; refine (find_it (TabAt.cols (SH.out.on HB9.out)) find_x).mono ?_; rintro e w10 ⟨rfl, hb10⟩; have HB10 := hid (below_on HB9.out hb10); clear k1 hb10; have K810 := hid (block_on K86.out HB10.out); have k8 := block_cell K810.out))
  go_ret
  exact ⟨rfl, below_on HB1.out (below_on HB2.out (below_on HB3.out (below_on HB4.out (below_on HB5.out (below_on HB6.out HB10.out)))))⟩
end Go.Proofs.Ytaccindmjaejdaa
