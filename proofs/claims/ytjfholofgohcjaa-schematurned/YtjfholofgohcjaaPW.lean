/-
  What the statements' load, point and same return; append of schemas.
  The head of layer 5's statements: the document's examples hold.
-/
import Derived.Test.YtjfholofgohcjaaPV
import Derived.ArgAppend
namespace Go.Proofs.Ytjfholofgohcjaa
open Go.RowKit Go.Sort Go.Shelf

def nLoad : ByteArray := ⟨#[108, 111, 97, 100]⟩
def cHost : Cl := ⟨⟨#[104, 111, 115, 116]⟩, 2, by decide⟩
def cNum : Cl := ⟨⟨#[110]⟩, 1, by decide⟩
def scLoad : Sc := ⟨⟨#[108, 111, 97, 100]⟩, [cHost], [cNum], by decide⟩
def vA : Vl := ⟨2, 0, ⟨#[97]⟩, 0, 0, 0, 0, 0, 0, 0, 0, by decide⟩
def v7 : Vl := ⟨1, 7, ⟨#[]⟩, 0, 0, 0, 0, 0, 0, 0, 0, by decide⟩
def ptLoad (t : Int) : Pt := ⟨⟨#[108, 111, 97, 100]⟩, [vA], t, [v7], by decide⟩
def ptLoads (t : Int) : Pt := ⟨⟨#[108, 111, 97, 100, 115]⟩, [vA], t, [v7], by decide⟩
def Loaded (w : World) (e : Ending) (w' : World) : Prop := ∃ pk nk ck pv nv cv, e = .returned (.agg #[.string ⟨#[108, 111, 97, 100]⟩, .slice pk nk ck, .slice pv nv cv]) ∧ ColsAt w' (.slice pk nk ck) [cHost] ∧ ColsAt w' (.slice pv nv cv) [cNum] ∧ Below w.heap.size w w'
theorem oneC_sl {w : World} {B : Nat} {c : Cl} (h : w.heap[B]? = some (.cells #[.string c.nm, .int .i64 c.kd] 32)) : ColsAt w (.slice (some ⟨B, 0, none⟩) 1 1) [c] :=
  (lit_sl (xs := [c]) h cl_len rfl rfl (Nat.le_refl _) (by simp)).imp fun _ _ => trivial
theorem oneV_sl {w : World} {B : Nat} {x : Vl} (h : w.heap[B]? = some (.cells (vc x) 44)) : RowAt w (.slice (some ⟨B, 0, none⟩) 1 1) [x] :=
  (lit_sl (xs := [x]) h vl_len rfl rfl (Nat.le_refl _) (by simp)).imp fun _ _ => trivial
theorem blk3 (w : World) (x y z : Obj) : (((w.alloc x).alloc y).alloc z).heap[w.heap.size]? = some x ∧ (((w.alloc x).alloc y).alloc z).heap[w.heap.size + 1]? = some y ∧ (((w.alloc x).alloc y).alloc z).heap[w.heap.size + 1 + 1]? = some z ∧ Below w.heap.size w (((w.alloc x).alloc y).alloc z) := by
  have h1 := alloc_block (w.alloc x) y
  have h2 := alloc_block ((w.alloc x).alloc y) z
  rw [World.size_alloc] at h1
  rw [World.size_alloc, World.size_alloc] at h2
  have b1 : Below w.heap.size w (w.alloc x) := (Below.refl _ w).alloc (Nat.le_refl _) x
  have b2 : Below w.heap.size w ((w.alloc x).alloc y) := b1.alloc b1.size y
  exact ⟨blk_upS (blk_upS (alloc_block w x) y) z, blk_upS h1 z, h2, b2.alloc b2.size z⟩
set_option maxHeartbeats 1000000 in
theorem load_any {w : World} : Calls Try.prog 76 #[] w (Loaded w) := by
  go_enter Try.func76, Try.ntmps76
  go_wp2
  obtain ⟨h0, h1, h2, h3⟩ := blk3 w (.cells #[.string ⟨#[108, 111, 97, 100]⟩, .slice (some ⟨w.heap.size + 1, 0, none⟩) 1 1, .slice (some ⟨w.heap.size + 1 + 1, 0, none⟩) 1 1] 56) (.cells #[.string ⟨#[104, 111, 115, 116]⟩, .int .i64 2] 32) (.cells #[.string ⟨#[110]⟩, .int .i64 1] 32)
  generalize (((w.alloc (.cells #[.string ⟨#[108, 111, 97, 100]⟩, .slice (some ⟨w.heap.size + 1, 0, none⟩) 1 1, .slice (some ⟨w.heap.size + 1 + 1, 0, none⟩) 1 1] 56)).alloc (.cells #[.string ⟨#[104, 111, 115, 116]⟩, .int .i64 2] 32)).alloc (.cells #[.string ⟨#[110]⟩, .int .i64 1] 32)) = W at *
  have k0 := block_cell h0
  exact bodyPost_ret (v := .agg #[.string ⟨#[108, 111, 97, 100]⟩, .slice (some ⟨w.heap.size + 1, 0, none⟩) 1 1, .slice (some ⟨w.heap.size + 1 + 1, 0, none⟩) 1 1]) (by simp [results, Try.results76, go_sem, k0]) rfl ⟨_, _, _, _, _, _, rfl, oneC_sl (c := cHost) h1, oneC_sl (c := cNum) h2, h3⟩
def Pointed (w : World) (t : Int) (e : Ending) (w' : World) : Prop := ∃ pk nk ck pv nv cv, e = .returned (.agg #[.string ⟨#[108, 111, 97, 100]⟩, .slice pk nk ck, .int .i64 t, .slice pv nv cv]) ∧ RowAt w' (.slice pk nk ck) [vA] ∧ RowAt w' (.slice pv nv cv) [v7] ∧ Below w.heap.size w w'
set_option maxHeartbeats 1000000 in
theorem point_any {w : World} {t : Int} : Calls Try.prog 77 #[.int .i64 t] w (Pointed w t) := by
  go_enter Try.func77, Try.ntmps77
  go_wp2
  obtain ⟨h0, h1, h2, h3⟩ := blk3 w (.cells #[.string ⟨#[108, 111, 97, 100]⟩, .slice (some ⟨w.heap.size + 1, 0, none⟩) 1 1, .int .i64 t, .slice (some ⟨w.heap.size + 1 + 1, 0, none⟩) 1 1] 67) (.cells (vc vA) 44) (.cells (vc v7) 44)
  have e : (((w.alloc (.cells #[.string ⟨#[108, 111, 97, 100]⟩, .slice (some ⟨w.heap.size + 1, 0, none⟩) 1 1, .int .i64 t, .slice (some ⟨w.heap.size + 1 + 1, 0, none⟩) 1 1] 67)).alloc (.cells (vc vA) 44)).alloc (.cells (vc v7) 44)) = (((w.alloc (.cells #[.string ⟨#[108, 111, 97, 100]⟩, .slice (some ⟨w.heap.size + 1, 0, none⟩) 1 1, .int .i64 t, .slice (some ⟨w.heap.size + 1 + 1, 0, none⟩) 1 1] 67)).alloc (.cells #[.int .i64 2, .int .i64 0, .string ⟨#[97]⟩, .int .i64 0, .int .i64 0, .int .i64 0, .int .i64 0, .int .i64 0, .int .i64 0, .int .i64 0, .int .i64 0] 44)).alloc (.cells #[.int .i64 1, .int .i64 7, .string ⟨#[]⟩, .int .i64 0, .int .i64 0, .int .i64 0, .int .i64 0, .int .i64 0, .int .i64 0, .int .i64 0, .int .i64 0] 44)) := rfl
  rw [← e]
  generalize (((w.alloc (.cells #[.string ⟨#[108, 111, 97, 100]⟩, .slice (some ⟨w.heap.size + 1, 0, none⟩) 1 1, .int .i64 t, .slice (some ⟨w.heap.size + 1 + 1, 0, none⟩) 1 1] 67)).alloc (.cells (vc vA) 44)).alloc (.cells (vc v7) 44)) = W at *
  clear e
  have k0 := block_cell h0
  exact bodyPost_ret (v := .agg #[.string ⟨#[108, 111, 97, 100]⟩, .slice (some ⟨w.heap.size + 1, 0, none⟩) 1 1, .int .i64 t, .slice (some ⟨w.heap.size + 1 + 1, 0, none⟩) 1 1]) (by simp [results, Try.results77, go_sem, k0]) rfl ⟨_, _, _, _, _, _, rfl, oneV_sl (x := vA) h1, oneV_sl (x := v7) h2, h3⟩
def sameS (a b : Sc) : Bool := decide (a.nm = b.nm ∧ a.ks = b.ks ∧ a.vs = b.vs)
set_option maxRecDepth 100000 in
set_option maxHeartbeats 1000000 in
theorem same5_any {u v : Value} {a b : Sc} {w : World} (hu : ScAt w u a) (hv : ScAt w v b) :
    Calls Try.prog 33 #[u, v] w fun e w' => e = .returned (.bool (sameS a b)) ∧ Below w.heap.size w w' := by
  obtain ⟨k1, v1, rfl, hk1, hv1⟩ := hu
  obtain ⟨k2, v2, rfl, hk2, hv2⟩ := hv
  have HK1 := hid hk1
  have HV1 := hid hv1
  have HK2 := hid hk2
  have HV2 := hid hv2
  clear hk1 hv1 hk2 hv2
  generalize hr : sameS a b = r
  have HR := hid hr
  clear hr
  have HB : Hid (Below w.heap.size w ((w.alloc (.cells #[.string a.nm, k1, v1] 56)).alloc (.cells #[.string b.nm, k2, v2] 56))) := ((Below.refl w.heap.size w).alloc (Nat.le_refl _) _).alloc (by simp) _
  have K0 := hid (blk_upS (alloc_block w (.cells #[.string a.nm, k1, v1] 56)) (.cells #[.string b.nm, k2, v2] 56))
  have K1 : Hid (((w.alloc (.cells #[.string a.nm, k1, v1] 56)).alloc (.cells #[.string b.nm, k2, v2] 56)).heap[w.heap.size + 1]? = some (.cells #[.string b.nm, k2, v2] 56)) := by
    have h := alloc_block (w.alloc (.cells #[.string a.nm, k1, v1] 56)) (.cells #[.string b.nm, k2, v2] 56)
    rw [World.size_alloc] at h
    exact h
  have M1 : Hid True := trivial
  have hq := bytes_beq a.nm b.nm
  by_cases h1 : a.nm = b.nm
  · have H1 := hid h1
    rw [decide_eq_true h1] at hq
    clear h1
    by_cases h2 : a.ks = b.ks
    · have H2 := hid (decide_eq_true h2)
      have G2 := hid h2
      clear h2
      generalize h3 : decide (a.vs = b.vs) = q
      have H3 := hid h3
      clear h3
      go_enter Try.func33, Try.ntmps33
      go_wp2_with (first
        | (go_at_call 34; have FIRST := M1; refine (samecols_is (HK1.out.on HB.out) (HK2.out.on HB.out) H2.out).mono ?_; rintro e w1 ⟨rfl, hb1⟩; have HB1 := hid (below_on HB.out hb1); have c0 := block_cell (block_on K0.out hb1); have c1 := block_cell (block_on K1.out hb1); clear hb1 M1 FIRST)
        | (go_at_call 34; refine (samecols_is (HV1.out.on HB1.out) (HV2.out.on HB1.out) H3.out).mono ?_; rintro e w2 ⟨rfl, hb2⟩))
      go_ret
      exact ⟨ret_bool (by rw [← HR.out, sameS, ← H3.out]; simp [H1.out, G2.out]), below_on HB1.out hb2⟩
    · have H2 := hid (decide_eq_false h2)
      have G2 := hid h2
      clear h2
      go_enter Try.func33, Try.ntmps33
      go_wp2_with (first
        | (go_at_call 34; refine (samecols_is (HK1.out.on HB.out) (HK2.out.on HB.out) H2.out).mono ?_; rintro e w1 ⟨rfl, hb1⟩))
      go_ret
      exact ⟨ret_bool (by rw [← HR.out, sameS]; simp [G2.out]), below_on HB.out hb1⟩
  · have H1 := hid h1
    rw [decide_eq_false h1] at hq
    clear h1
    go_enter Try.func33, Try.ntmps33
    go_wp2_with fail
    go_ret
    exact ⟨ret_bool (by rw [← HR.out, sameS]; simp [H1.out]), HB.out⟩
theorem same5_is {u v : Value} {a b : Sc} {w : World} {r : Bool} (hu : ScAt w u a) (hv : ScAt w v b) (h : sameS a b = r) :
    Calls Try.prog 33 #[u, v] w fun e w' => e = .returned (.bool r) ∧ Below w.heap.size w w' := by rw [← h]; exact same5_any hu hv
theorem info56 : (Try.prog.info? 56).map (fun i => (i.zero, i.size, i.bytes)) = some (some (.agg #[.string ⟨#[]⟩, .slice none 0 0, .slice none 0 0]), 3, 64) := by kernel_rfl
theorem wp_wanted {ops : Array Oper} {rest : List Oper} {o : Oper} {a : Act} {Q : Exit → Act → World → Prop} {w : World} (hw : Region.wanted o (yielded ops a.tmps) = true) (h : o.wp Try.prog a w (wpList Try.prog ops Q rest) Q) : wpList Try.prog ops Q (o :: rest) a w := by
  unfold wpList
  rw [if_pos hw]
  exact .inl h
/- append(s, x): s of the call's own, x one schema or more. -/
theorem app3_any {ops : Array Oper} {rest : List Oper} {o : Oper} {a : Act} {Q : Exit → Act → World → Prop} {w : World} {B : Nat} {Qb : Nat → Prop} {xs ys : List Sh} {v u : Value}
    (hw : Region.wanted o (yielded ops a.tmps) = true) (h1 : ∀ y ∈ ys, ∀ c ∈ y.cells, c.oneCell' = true) (s x : Operand) (ho : o.op = .call { callee := .builtin .append, args := #[s, x], argTypes := #[54, 54] })
    (hs : a.eval s = v) (hown : Own Sh.cells 3 56 B w v xs) (hx : a.eval x = u) (hu : SlAt Qb Sh.cells 3 w u ys) (hne : ys ≠ []) (hb : xs.length + ys.length ≤ 4096) (hB : B ≤ w.heap.size)
    (h : ∀ v' w', Own Sh.cells 3 56 B w' v' (xs ++ ys) → Below B w w' → wpList Try.prog ops Q rest (a.put o.dst v') w') : wpList Try.prog ops Q (o :: rest) a w := by
  refine wp_wanted hw ?_
  obtain ⟨i0, hi, hz0, hz1, hz2⟩ := info_parts info56
  obtain ⟨p, cap, rfl, ⟨hcap, hnone⟩, hmax, hy⟩ := hu
  obtain ⟨b, o', rfl, _, hcell⟩ := hy hne
  refine wp_append_own w s x 54 ho B 56 i0 _ 3 64 Try.underlying54 hi hz0 hz1 hz2 rfl (by omega) v xs.length _ hs hown ⟨b, o', none⟩ ys.length cap (ys.flatMap Sh.cells) hx (flat_length sh_len ys) ?_ ?_ ?_ (by omega) hB ?_
  · intro j c hj
    rw [Addr.add_lit]
    exact flat_cells sh_len ys o' hcell j c hj
  · intro c hc
    obtain ⟨y, hy', hcy⟩ := List.mem_flatMap.1 hc
    exact h1 y hy' c hcy
  · unfold maxLen; omega
  · intro v' w' h2 h3 _
    refine h v' w' ?_ ((Below.refl B w).grown h3 hB (fun j e => (hown.lt j e)))
    show w'.ownsRow B 56 3 v' (xs ++ ys).length ((xs ++ ys).flatMap Sh.cells)
    rw [List.length_append, List.flatMap_append]; exact h2
end Go.Proofs.Ytjfholofgohcjaa
namespace Go.Proofs.Ytjfholofgohcjaa
open Go.RowKit Go.Sort Go.Shelf

theorem f_host : wordB ⟨#[104, 111, 115, 116]⟩ = true := by kernel_rfl
theorem f_time : wordB ⟨#[116, 105, 109, 101]⟩ = false := by kernel_rfl
theorem f_hash : wordB ⟨#[97, 35]⟩ = false := by kernel_rfl
theorem f_ok : checkS [scLoad] = 0 := by kernel_rfl
theorem f_two : checkS [scLoad, scLoad] = 50 := by kernel_rfl
theorem f_nil : checkS [] = 50 := by kernel_rfl
theorem f_fit : fitsS [scLoad] (ptLoad 5) = 0 := by kernel_rfl
theorem f_neg : fitsS [scLoad] (ptLoad (-1)) = 51 := by kernel_rfl
theorem f_none : fitsS [scLoad] (ptLoads 5) = 50 := by kernel_rfl
theorem f_at : atS [scLoad] ⟨#[108, 111, 97, 100]⟩ = ((0 : Nat) : Int) := by kernel_rfl
theorem f_not : atS [scLoad] ⟨#[108, 111, 97, 100, 115]⟩ < 0 := by decide
theorem heads_one5 {w : World} {pk pv : Option Addr} {nk ck nv cv : Nat} (h1 : ColsAt w (.slice pk nk ck) [cHost]) (h2 : ColsAt w (.slice pv nv cv) [cNum]) : HeadsS w [⟨⟨#[108, 111, 97, 100]⟩, .slice pk nk ck, .slice pv nv cv⟩] [scLoad] :=
  ⟨rfl, fun j h s e1 e2 => by
    match j, e1, e2 with
    | 0, e1, e2 => cases e1; cases e2; exact ⟨rfl, h1, h2⟩
    | j + 1, e1, _ => simp at e1⟩
theorem small3 {n : Nat} (h : n ≤ 4096) : n * bsz 3 ≤ 140737488355328 := by unfold bsz; simp; omega
theorem oneH_sl {w : World} {B : Nat} {h : Sh} (k : w.heap[B]? = some (.cells #[.string h.nm, h.kv, h.vv] 56)) : SlAt (fun b => b = B) Sh.cells 3 w (.slice (some ⟨B, 0, none⟩) 1 1) [h] :=
  lit_sl (xs := [h]) k sh_len rfl rfl (Nat.le_refl _) (by simp)
/- append(s, x): s full, x one schema or more. -/
theorem appG3 {ops : Array Oper} {rest : List Oper} {o : Oper} {a : Act} {Q : Exit → Act → World → Prop} {w : World} {b b' m c : Nat} {h : Sh} {ys : List Sh}
    (hw : Region.wanted o (yielded ops a.tmps) = true) (s x : Operand) (ho : o.op = .call { callee := .builtin .append, args := #[s, x], argTypes := #[54, 54] })
    (hs : a.eval s = .slice (some ⟨b, 0, none⟩) 1 1) (hblk : w.heap[b]? = some (.cells #[.string h.nm, h.kv, h.vv] 56)) (hx : a.eval x = .slice (some ⟨b', 0, none⟩) m c) (hm : ys.length = m) (hu : ∀ (j : Nat) y, ys[j]? = some y → CellsAt w b' (0 + j * 3) y.cells) (hne : 0 < m) (hb : m ≤ 4000)
    (k : ∀ v' w', Own Sh.cells 3 56 w.heap.size w' v' (h :: ys) → Below w.heap.size w w' → wpList Try.prog ops Q rest (a.put o.dst v') w') : wpList Try.prog ops Q (o :: rest) a w := by
  refine wp_wanted hw ?_
  obtain ⟨i0, hi, hz0, hz1, hz2⟩ := info_parts info56
  obtain ⟨v', w', hrun, r1, r2⟩ := run_append_arg_grows (P := Try.prog) w 54 o.type 56 i0 _ 3 64 Try.underlying54 hi hz0 hz1 hz2 rfl (by omega) ⟨b, 0, none⟩ 1 1 h.cells rfl (fun j u hj => by
    rw [Addr.add_lit, block_cell hblk, Nat.zero_add]
    have : (#[.string h.nm, h.kv, h.vv] : Array Value)[j]? = h.cells[j]? := by simp [Sh.cells]
    rw [this]; exact hj) ⟨b', 0, none⟩ m c (ys.flatMap Sh.cells) (by rw [flat_length sh_len ys, hm]) (fun j u hj => by rw [Addr.add_lit]; exact flat_cells sh_len ys 0 hu j u hj) (by omega) (by unfold maxLen; omega) (by omega)
  unfold Oper.wp
  simp [execOp, ho, resolve, invoke, builtin, hs, hx, hrun, Result.andThen]
  refine k v' w' ?_ ((Below.refl _ w).grown r2 (Nat.le_refl _) (fun j e => by cases e))
  show w'.ownsRow w.heap.size 56 3 v' (h :: ys).length ((h :: ys).flatMap Sh.cells)
  rw [List.length_cons, hm, Nat.add_comm, List.flatMap_cons]
  exact r1
theorem one_cells {w : World} {B : Nat} {h : Sh} (k : w.heap[B]? = some (.cells #[.string h.nm, h.kv, h.vv] 56)) : ∀ (j : Nat) y, [h][j]? = some y → CellsAt w B (0 + j * 3) y.cells
  | 0, y, e => by
    cases e
    intro i u hi
    rw [block_cell k, Nat.zero_mul, Nat.zero_add]
    have : (#[.string h.nm, h.kv, h.vv] : Array Value)[i]? = h.cells[i]? := by simp [Sh.cells]
    rw [this]; exact hi
  | j + 1, y, e => by simp at e
theorem scols_load {v : Value} {w : World} (hv : ScAt w v scLoad) : Calls Try.prog 35 #[v] w fun e w' => ∃ p c, e = .returned (.slice p 3 c) ∧ Below w.heap.size w w' :=
  (scols_any hv (by decide)).mono fun _ _ ⟨_, he, ⟨p, c, hu, _⟩, hb⟩ => ⟨p, c, by rw [he, hu]; rfl, hb⟩
/- What stays through all of it: the list of one schema. -/
structure Sn (w : World) (bl : Nat) (h : Sh) (x : World) : Prop where
  low : Below w.heap.size w x
  ls : HeadsS x [h] [scLoad]
  blk : x.heap[bl]? = some (.cells #[.string h.nm, h.kv, h.vv] 56)
theorem Sn.on {w x x' : World} {bl : Nat} {h : Sh} (s : Sn w bl h x) (hb : Below x.heap.size x x') : Sn w bl h x' := ⟨below_on s.low hb, s.ls.on hb, block_on s.blk hb⟩
theorem Sn.al {w x : World} {bl : Nat} {h : Sh} (s : Sn w bl h x) (o : Obj) : Sn w bl h (x.alloc o) := s.on ((Below.refl _ _).alloc (Nat.le_refl _) o)
theorem Sn.schs {w x : World} {bl : Nat} {h : Sh} (s : Sn w bl h x) : SchsAt x (.slice (some ⟨bl, 0, none⟩) 1 1) [scLoad] := ⟨[h], (oneH_sl s.blk).imp (fun _ _ => trivial), s.ls⟩
theorem nil_schs {w : World} : SchsAt w (.slice none 0 0) [] := ⟨[], SlAt.nil _ _ _ _, rfl, fun j h s e => by simp at e⟩
theorem up_al {w : World} {b : Nat} {o : Obj} (h : w.heap[b]? = some o) (x : Obj) : (w.alloc x).heap[b]? = some o := blk_upS h x
theorem two_schs {w : World} {v : Value} {B : Nat} {h h' : Sh} (ho : Own Sh.cells 3 56 B w v [h, h']) (h1 : HeadsS w [h] [scLoad]) (h2 : HeadsS w [h'] [scLoad]) : SchsAt w v [scLoad, scLoad] :=
  ⟨[h, h'], (Own.sl ho sh_len (small3 (by simp))).imp (fun _ _ => trivial), rfl, fun j x s e1 e2 => by
    match j, e1, e2 with
    | 0, e1, e2 => exact h1.2 0 x s e1 e2
    | 1, e1, e2 => exact h2.2 0 x s e1 e2
    | j + 2, e1, _ => simp at e1⟩
theorem pt_at {w : World} {pk pv : Option Addr} {nk ck nv cv : Nat} {t : Int} (h1 : RowAt w (.slice pk nk ck) [vA]) (h2 : RowAt w (.slice pv nv cv) [v7]) : PtAt w (.agg #[.string ⟨#[108, 111, 97, 100]⟩, .slice pk nk ck, .int .i64 t, .slice pv nv cv]) (ptLoad t) := ⟨_, _, rfl, h1, h2⟩
theorem pts_at {w : World} {pk pv : Option Addr} {nk ck nv cv : Nat} {t : Int} (h1 : RowAt w (.slice pk nk ck) [vA]) (h2 : RowAt w (.slice pv nv cv) [v7]) : PtAt w (.agg #[.string ⟨#[108, 111, 97, 100, 115]⟩, .slice pk nk ck, .int .i64 t, .slice pv nv cv]) (ptLoads t) := ⟨_, _, rfl, h1, h2⟩
theorem sfits_is {v u : Value} {l : List Sc} {p : Pt} {w : World} {r : Int} (hv : SchsAt w v l) (hp : PtAt w u p) (h : fitsS l p = r) : Calls Try.prog 41 #[v, u] w fun e w' => e = .returned (.int .i64 r) ∧ Below w.heap.size w w' := by rw [← h]; exact sfits_any hv hp
theorem fload {w x : World} {bl : Nat} {h : Sh} (s : Sn w bl h x) : Calls Try.prog 31 #[.slice (some ⟨bl, 0, none⟩) 1 1, .string ⟨#[108, 111, 97, 100]⟩] x (FoundAt x scLoad) := sfind_some s.schs f_at
theorem sc_at {w : World} {pk pv : Option Addr} {nk ck nv cv : Nat} (h1 : ColsAt w (.slice pk nk ck) [cHost]) (h2 : ColsAt w (.slice pv nv cv) [cNum]) : ScAt w (.agg #[.string ⟨#[108, 111, 97, 100]⟩, .slice pk nk ck, .slice pv nv cv]) scLoad := ⟨_, _, rfl, h1, h2⟩
set_option maxRecDepth 100000 in
set_option maxHeartbeats 4000000 in
theorem shown5_any {w : World} : Calls Try.prog 30 #[] w fun e w' => e = .returned (.bool true) ∧ Below w.heap.size w w' := by
  have M1 : Hid True := trivial
  go_enter Try.func30, Try.ntmps30
  go_wp2_with (first
    | (go_at_call 76; have FIRST := M1; refine load_any.mono ?_; rintro e w1 ⟨pk, nk, ck, pv, nv, cv, rfl, h1, h2, hb1⟩; have S1 := hid (Sn.mk (h := ⟨⟨#[108, 111, 97, 100]⟩, .slice pk nk ck, .slice pv nv cv⟩) (hb1.alloc hb1.size (.cells #[.string ⟨#[108, 111, 97, 100]⟩, .slice pk nk ck, .slice pv nv cv] 56)) ((heads_one5 h1 h2).on ((Below.refl _ _).alloc (Nat.le_refl _) _)) (alloc_block w1 _)); clear h1 h2 hb1 M1 FIRST; have M2 : Hid True := trivial)
    | (go_at_call 77; have FIRST := M2; refine point_any.mono ?_; rintro e w2 ⟨qk, mk, dk, qv, mv, dv, rfl, h1, h2, hb2⟩; have S2 := hid ((S1.out.on hb2).al (.cells #[.string ⟨#[108, 111, 97, 100, 115]⟩, .slice qk mk dk, .int .i64 5, .slice qv mv dv] 67)); have KN2 := hid (alloc_block w2 (.cells #[.string ⟨#[108, 111, 97, 100, 115]⟩, .slice qk mk dk, .int .i64 5, .slice qv mv dv] 67)); have R1 := hid (h1.on ((Below.refl _ _).alloc (Nat.le_refl _) (.cells #[.string ⟨#[108, 111, 97, 100, 115]⟩, .slice qk mk dk, .int .i64 5, .slice qv mv dv] 67))); have R2 := hid (h2.on ((Below.refl _ _).alloc (Nat.le_refl _) (.cells #[.string ⟨#[108, 111, 97, 100, 115]⟩, .slice qk mk dk, .int .i64 5, .slice qv mv dv] 67))); clear h1 h2 hb2 M2 FIRST S1; have M3 : Hid True := trivial)
    | (go_at_call 31; have FIRST := M3; refine (fload S2.out).mono ?_; rintro e w3 ⟨ak, ak2, ak3, av, av2, av3, rfl, g1, g2, hb3⟩; have S3 := hid ((S2.out.on hb3).al (.cells #[.string scLoad.nm, .slice ak ak2 ak3, .slice av av2 av3] 56)); have HT3 := hid (hb3.alloc hb3.size (.cells #[.string scLoad.nm, .slice ak ak2 ak3, .slice av av2 av3] 56)); clear g1 g2 hb3 M3 FIRST; have M4 : Hid True := trivial)
    | (go_at_call 31; have FIRST := M4; refine (sfind_none S3.out.schs f_not).mono ?_; rintro e w4 ⟨rfl, hb4⟩; have S4 := hid ((S3.out.on hb4).al (.cells #[.string ⟨#[]⟩, .slice none 0 0, .slice none 0 0] 56)); have HT4 := hid ((below_on HT3.out hb4).alloc (below_on HT3.out hb4).size (.cells #[.string ⟨#[]⟩, .slice none 0 0, .slice none 0 0] 56)); clear hb4 M4 FIRST S3 HT3; have M5 : Hid True := trivial)
    | (go_at_call 37; have FIRST := M5; refine (word_call (by decide) f_host).mono ?_; rintro e w' ⟨rfl, rfl⟩; clear M5 FIRST; have M6 : Hid True := trivial)
    | (go_at_call 37; have FIRST := M6; refine (word_call (by decide) f_time).mono ?_; rintro e w' ⟨rfl, rfl⟩; clear M6 FIRST; have M7 : Hid True := trivial)
    | (go_at_call 37; have FIRST := M7; refine (word_call (by decide) f_hash).mono ?_; rintro e w' ⟨rfl, rfl⟩; clear M7 FIRST; have M8 : Hid True := trivial)
    | (go_at_call 39; have FIRST := M8; refine (scheck_is S4.out.schs f_ok).mono ?_; rintro e w8 ⟨rfl, hb8⟩; have S8 := hid (S4.out.on hb8); have HT8 := hid (below_on HT4.out hb8); clear hb8 M8 FIRST S4 HT4; have M9 : Hid True := trivial)
    | (go_at_call 76; have FIRST := M9; refine load_any.mono ?_; rintro e w9 ⟨ek, ek2, ek3, ev, ev2, ev3, rfl, h1, h2, hb9⟩; have S9 := hid ((S8.out.on hb9).al (.cells #[.string ⟨#[108, 111, 97, 100]⟩, .slice ek ek2 ek3, .slice ev ev2 ev3] 56)); have HT9 := hid ((below_on HT8.out hb9).alloc (below_on HT8.out hb9).size (.cells #[.string ⟨#[108, 111, 97, 100]⟩, .slice ek ek2 ek3, .slice ev ev2 ev3] 56)); have HD9 := hid ((heads_one5 h1 h2).on ((Below.refl _ _).alloc (Nat.le_refl _) (.cells #[.string ⟨#[108, 111, 97, 100]⟩, .slice ek ek2 ek3, .slice ev ev2 ev3] 56))); have K9 := hid (alloc_block w9 (.cells #[.string ⟨#[108, 111, 97, 100]⟩, .slice ek ek2 ek3, .slice ev ev2 ev3] 56)); clear h1 h2 hb9 M9 FIRST S8 HT8; have M10 : Hid True := trivial)
    | (at_builtin; have FIRST := M10; refine appG3 (h := ⟨⟨#[108, 111, 97, 100]⟩, .slice pk nk ck, .slice pv nv cv⟩) (ys := [⟨⟨#[108, 111, 97, 100]⟩, .slice ek ek2 ek3, .slice ev ev2 ev3⟩]) (by rfl) _ _ rfl rfl S9.out.blk rfl rfl (one_cells K9.out) (by decide) (by decide) ?_; intro v10 w10 ho10 hb10; have S10 := hid (S9.out.on hb10); have HT10 := hid (below_on HT9.out hb10); have L10 := hid (two_schs ho10 (S9.out.ls.on hb10) (HD9.out.on hb10)); clear ho10 hb10 M10 FIRST S9 HT9 HD9 K9; have M11 : Hid True := trivial)
    | (go_at_call 39; have FIRST := M11; refine (scheck_is L10.out f_two).mono ?_; rintro e w11 ⟨rfl, hb11⟩; have S11 := hid (S10.out.on hb11); have HT11 := hid (below_on HT10.out hb11); clear hb11 M11 FIRST S10 HT10 L10; have M12 : Hid True := trivial)
    | (go_at_call 39; have FIRST := M12; refine (scheck_is nil_schs f_nil).mono ?_; rintro e w12 ⟨rfl, hb12⟩; have S12 := hid (S11.out.on hb12); have HT12 := hid (below_on HT11.out hb12); clear hb12 M12 FIRST S11 HT11; have M13 : Hid True := trivial)
    | (go_at_call 77; have FIRST := M13; refine point_any.mono ?_; rintro e w13 ⟨ik, ik2, ik3, iv, iv2, iv3, rfl, h1, h2, hb13⟩; have S13 := hid (S12.out.on hb13); have HT13 := hid (below_on HT12.out hb13); have P13 := hid (pt_at (t := 5) h1 h2); clear h1 h2 hb13 M13 FIRST S12 HT12; have M14 : Hid True := trivial)
    | (go_at_call 41; have FIRST := M14; refine (sfits_is S13.out.schs P13.out f_fit).mono ?_; rintro e w14 ⟨rfl, hb14⟩; have S14 := hid (S13.out.on hb14); have HT14 := hid (below_on HT13.out hb14); clear hb14 M14 FIRST S13 HT13 P13; have M15 : Hid True := trivial)
    | (go_at_call 77; have FIRST := M15; refine point_any.mono ?_; rintro e w15 ⟨jk, jk2, jk3, jv, jv2, jv3, rfl, h1, h2, hb15⟩; have S15 := hid (S14.out.on hb15); have HT15 := hid (below_on HT14.out hb15); have P15 := hid (pt_at (t := -1) h1 h2); clear h1 h2 hb15 M15 FIRST S14 HT14; have M16 : Hid True := trivial)
    | (go_at_call 41; have FIRST := M16; refine (sfits_is S15.out.schs P15.out f_neg).mono ?_; rintro e w16 ⟨rfl, hb16⟩; have S16 := hid (S15.out.on hb16); have HT16 := hid (below_on HT15.out hb16); have kn := block_cell (block_on KN2.out HT16.out); clear hb16 M16 FIRST S15 HT15 P15; have M17 : Hid True := trivial)
    | (go_at_call 41; have FIRST := M17; refine (sfits_is S16.out.schs (pts_at (R1.out.on HT16.out) (R2.out.on HT16.out)) f_none).mono ?_; rintro e w17 ⟨rfl, hb17⟩; have S17 := hid (S16.out.on hb17); clear hb17 M17 FIRST S16 HT16 kn; have M18 : Hid True := trivial)
    | (go_at_call 76; have FIRST := M18; refine load_any.mono ?_; rintro e w18 ⟨lk, lk2, lk3, lv, lv2, lv3, rfl, h1, h2, hb18⟩; have S18 := hid (S17.out.on hb18); have C18 := hid (sc_at h1 h2); clear h1 h2 hb18 M18 FIRST S17; have M19 : Hid True := trivial)
    | (go_at_call 35; have FIRST := M19; refine (scols_load C18.out).mono ?_; rintro e w19 ⟨p19, c19, rfl, hb19⟩; have S19 := hid (S18.out.on hb19); clear hb19 M19 FIRST S18))
  go_ret
  exact ⟨rfl, S19.out.low⟩
end Go.Proofs.Ytjfholofgohcjaa
