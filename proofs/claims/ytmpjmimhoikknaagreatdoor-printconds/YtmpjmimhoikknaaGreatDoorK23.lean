/-
  Print's writer: a node; all its words.
  Print's words of a node, whole.
-/
import Derived.Test.YtmpjmimhoikknaaGreatDoorK22
namespace Go.Proofs.YtmpjmimhoikknaaGreatDoor
open Go.RowKit Go.Joins

section
variable {B : Nat} {qs : List Nx} {w w' : World} {wb : Nat} {nv wv wv' : Value} {ws ws' us : List (List UInt8)} {nb : Nat} {q : Nx}
/- What a node's own function does of it, at any world. -/
def NodO (B : Nat) (qs : List Nx) (wb : Nat) (nv : Value) (f : Nat) (q : Nx) (X : List (List UInt8)) : Prop := ∀ (w : World) (wv : Value) (ws : List (List UInt8)), Ws B qs w wb nv wv ws → (ws.length + X.length) * 16 ≤ 140737488355328 → Calls Tryz.prog f #[dp wb, .agg q.cells.toArray] w (SyP B wb nv wv (ws ++ X) w)
set_option maxRecDepth 100000 in
set_option maxHeartbeats 2000000 in
theorem wnode_1 {i : Nat} {X : List (List UInt8)} (hX : NodO B qs wb nv 100 q X) (hq : qs[i]? = some q) (hk : q.np.kind = 1) (h : Ws B qs w wb nv wv ws) (hb : (ws.length + X.length) * 16 ≤ 140737488355328) : Calls Tryz.prog 56 #[dp wb, .int .i64 (i : Int)] w (SyP B wb nv wv (ws ++ X) w) := by
  have hiq := (List.getElem?_eq_some_iff.1 hq).1
  have HNx := hid (h.q.each q (List.mem_of_getElem? hq))
  obtain ⟨p, cap, hnv, hc1, hc2⟩ := h.q.sl.form
  unfold maxLen at hc2
  have hsl := h.q.sl
  rw [hnv] at hsl
  obtain ⟨g, og, rfl, hgB, hcl⟩ := hsl.at (j := i) hq
  have HCl := hid hcl
  have cb := block_cell h.r.blk
  have i0 : (0 : Int) ≤ i := by omega
  have i1 : (i : Int) < qs.length := by omega
  have HW := hid h
  have HX := hid hX
  have HK := hid hk
  have HBd := hid hb
  have HB0 : Hid (Below w.heap.size w (w.alloc (.cells zNd 44))) := (Below.refl _ _).alloc (Nat.le_refl _) _
  subst hnv
  clear h hX hq hcl hsl hk hiq hb
  have M1 : Hid True := trivial
  go_enter Tryz.func56, Tryz.ntmps56
  go_upto_region 1 with (first
    | (clear M1; refine load_nx (q := q) rfl _ rfl rfl HCl.out ?_)
    | (refine store_nx (q := q) rfl _ _ rfl rfl rfl (nx_one HNx.out) (alloc_block w _) rfl ?_; intro w4 h4 k4; have H4 := hid h4; have K4 := hid k4; clear h4 k4))
  have c0 : w4.cell? ⟨w.heap.size, 0, none⟩ = some (.int .i64 1) := by rw [← HK.out]; exact block_cell H4.out 0
  have HC4 : Hid (CellsAt w4 w.heap.size 0 q.cells) := fun j u hj => by rw [Nat.zero_add, block_cell H4.out j]; simpa using hj
  have HB4 : Hid (Below w.heap.size w w4) := HB0.out.trans (K4.out.below (by simp) (fun k e => by omega))
  have HY := hid (HX.out w4 wv ws (HW.out.on HB4.out) HBd.out)
  clear cb
  go_wp2_with (first
    | (refine load_nx (q := q) rfl _ rfl rfl HC4.out ?_)
    | (go_at_call 100; refine HY.out.mono ?_; rintro e w5 hs; have HS5 := hid hs; obtain ⟨rfl, -⟩ := id hs; clear hs))
  go_end0
  exact SyP.of HB4.out HS5.out
set_option maxRecDepth 100000 in
set_option maxHeartbeats 2000000 in
theorem wnode_2 {i : Nat} {X : List (List UInt8)} (hX : NodO B qs wb nv 102 q X) (hq : qs[i]? = some q) (hk : q.np.kind = 2) (h : Ws B qs w wb nv wv ws) (hb : (ws.length + X.length) * 16 ≤ 140737488355328) : Calls Tryz.prog 56 #[dp wb, .int .i64 (i : Int)] w (SyP B wb nv wv (ws ++ X) w) := by
  have hiq := (List.getElem?_eq_some_iff.1 hq).1
  have HNx := hid (h.q.each q (List.mem_of_getElem? hq))
  obtain ⟨p, cap, hnv, hc1, hc2⟩ := h.q.sl.form
  unfold maxLen at hc2
  have hsl := h.q.sl
  rw [hnv] at hsl
  obtain ⟨g, og, rfl, hgB, hcl⟩ := hsl.at (j := i) hq
  have HCl := hid hcl
  have cb := block_cell h.r.blk
  have i0 : (0 : Int) ≤ i := by omega
  have i1 : (i : Int) < qs.length := by omega
  have HW := hid h
  have HX := hid hX
  have HK := hid hk
  have HBd := hid hb
  have HB0 : Hid (Below w.heap.size w (w.alloc (.cells zNd 44))) := (Below.refl _ _).alloc (Nat.le_refl _) _
  subst hnv
  clear h hX hq hcl hsl hk hiq hb
  have M1 : Hid True := trivial
  go_enter Tryz.func56, Tryz.ntmps56
  go_upto_region 1 with (first
    | (clear M1; refine load_nx (q := q) rfl _ rfl rfl HCl.out ?_)
    | (refine store_nx (q := q) rfl _ _ rfl rfl rfl (nx_one HNx.out) (alloc_block w _) rfl ?_; intro w4 h4 k4; have H4 := hid h4; have K4 := hid k4; clear h4 k4))
  have c0 : w4.cell? ⟨w.heap.size, 0, none⟩ = some (.int .i64 2) := by rw [← HK.out]; exact block_cell H4.out 0
  have HC4 : Hid (CellsAt w4 w.heap.size 0 q.cells) := fun j u hj => by rw [Nat.zero_add, block_cell H4.out j]; simpa using hj
  have HB4 : Hid (Below w.heap.size w w4) := HB0.out.trans (K4.out.below (by simp) (fun k e => by omega))
  have HY := hid (HX.out w4 wv ws (HW.out.on HB4.out) HBd.out)
  clear cb
  go_wp2_with (first
    | (refine load_nx (q := q) rfl _ rfl rfl HC4.out ?_)
    | (go_at_call 102; refine HY.out.mono ?_; rintro e w5 hs; have HS5 := hid hs; obtain ⟨rfl, -⟩ := id hs; clear hs))
  go_end0
  exact SyP.of HB4.out HS5.out
set_option maxRecDepth 100000 in
set_option maxHeartbeats 2000000 in
theorem wnode_3 {i : Nat} {X : List (List UInt8)} (hX : NodO B qs wb nv 102 q X) (hq : qs[i]? = some q) (hk : q.np.kind = 3) (h : Ws B qs w wb nv wv ws) (hb : (ws.length + X.length) * 16 ≤ 140737488355328) : Calls Tryz.prog 56 #[dp wb, .int .i64 (i : Int)] w (SyP B wb nv wv (ws ++ X) w) := by
  have hiq := (List.getElem?_eq_some_iff.1 hq).1
  have HNx := hid (h.q.each q (List.mem_of_getElem? hq))
  obtain ⟨p, cap, hnv, hc1, hc2⟩ := h.q.sl.form
  unfold maxLen at hc2
  have hsl := h.q.sl
  rw [hnv] at hsl
  obtain ⟨g, og, rfl, hgB, hcl⟩ := hsl.at (j := i) hq
  have HCl := hid hcl
  have cb := block_cell h.r.blk
  have i0 : (0 : Int) ≤ i := by omega
  have i1 : (i : Int) < qs.length := by omega
  have HW := hid h
  have HX := hid hX
  have HK := hid hk
  have HBd := hid hb
  have HB0 : Hid (Below w.heap.size w (w.alloc (.cells zNd 44))) := (Below.refl _ _).alloc (Nat.le_refl _) _
  subst hnv
  clear h hX hq hcl hsl hk hiq hb
  have M1 : Hid True := trivial
  go_enter Tryz.func56, Tryz.ntmps56
  go_upto_region 1 with (first
    | (clear M1; refine load_nx (q := q) rfl _ rfl rfl HCl.out ?_)
    | (refine store_nx (q := q) rfl _ _ rfl rfl rfl (nx_one HNx.out) (alloc_block w _) rfl ?_; intro w4 h4 k4; have H4 := hid h4; have K4 := hid k4; clear h4 k4))
  have c0 : w4.cell? ⟨w.heap.size, 0, none⟩ = some (.int .i64 3) := by rw [← HK.out]; exact block_cell H4.out 0
  have HC4 : Hid (CellsAt w4 w.heap.size 0 q.cells) := fun j u hj => by rw [Nat.zero_add, block_cell H4.out j]; simpa using hj
  have HB4 : Hid (Below w.heap.size w w4) := HB0.out.trans (K4.out.below (by simp) (fun k e => by omega))
  have HY := hid (HX.out w4 wv ws (HW.out.on HB4.out) HBd.out)
  clear cb
  go_wp2_with (first
    | (refine load_nx (q := q) rfl _ rfl rfl HC4.out ?_)
    | (go_at_call 102; refine HY.out.mono ?_; rintro e w5 hs; have HS5 := hid hs; obtain ⟨rfl, -⟩ := id hs; clear hs))
  go_end0
  exact SyP.of HB4.out HS5.out
set_option maxRecDepth 100000 in
set_option maxHeartbeats 2000000 in
theorem wnode_4 {i : Nat} {X : List (List UInt8)} (hX : NodO B qs wb nv 102 q X) (hq : qs[i]? = some q) (hk : q.np.kind = 4) (h : Ws B qs w wb nv wv ws) (hb : (ws.length + X.length) * 16 ≤ 140737488355328) : Calls Tryz.prog 56 #[dp wb, .int .i64 (i : Int)] w (SyP B wb nv wv (ws ++ X) w) := by
  have hiq := (List.getElem?_eq_some_iff.1 hq).1
  have HNx := hid (h.q.each q (List.mem_of_getElem? hq))
  obtain ⟨p, cap, hnv, hc1, hc2⟩ := h.q.sl.form
  unfold maxLen at hc2
  have hsl := h.q.sl
  rw [hnv] at hsl
  obtain ⟨g, og, rfl, hgB, hcl⟩ := hsl.at (j := i) hq
  have HCl := hid hcl
  have cb := block_cell h.r.blk
  have i0 : (0 : Int) ≤ i := by omega
  have i1 : (i : Int) < qs.length := by omega
  have HW := hid h
  have HX := hid hX
  have HK := hid hk
  have HBd := hid hb
  have HB0 : Hid (Below w.heap.size w (w.alloc (.cells zNd 44))) := (Below.refl _ _).alloc (Nat.le_refl _) _
  subst hnv
  clear h hX hq hcl hsl hk hiq hb
  have M1 : Hid True := trivial
  go_enter Tryz.func56, Tryz.ntmps56
  go_upto_region 1 with (first
    | (clear M1; refine load_nx (q := q) rfl _ rfl rfl HCl.out ?_)
    | (refine store_nx (q := q) rfl _ _ rfl rfl rfl (nx_one HNx.out) (alloc_block w _) rfl ?_; intro w4 h4 k4; have H4 := hid h4; have K4 := hid k4; clear h4 k4))
  have c0 : w4.cell? ⟨w.heap.size, 0, none⟩ = some (.int .i64 4) := by rw [← HK.out]; exact block_cell H4.out 0
  have HC4 : Hid (CellsAt w4 w.heap.size 0 q.cells) := fun j u hj => by rw [Nat.zero_add, block_cell H4.out j]; simpa using hj
  have HB4 : Hid (Below w.heap.size w w4) := HB0.out.trans (K4.out.below (by simp) (fun k e => by omega))
  have HY := hid (HX.out w4 wv ws (HW.out.on HB4.out) HBd.out)
  clear cb
  go_wp2_with (first
    | (refine load_nx (q := q) rfl _ rfl rfl HC4.out ?_)
    | (go_at_call 102; refine HY.out.mono ?_; rintro e w5 hs; have HS5 := hid hs; obtain ⟨rfl, -⟩ := id hs; clear hs))
  go_end0
  exact SyP.of HB4.out HS5.out
set_option maxRecDepth 100000 in
set_option maxHeartbeats 2000000 in
theorem wnode_5 {i : Nat} {X : List (List UInt8)} (hX : NodO B qs wb nv 102 q X) (hq : qs[i]? = some q) (hk : q.np.kind = 5) (h : Ws B qs w wb nv wv ws) (hb : (ws.length + X.length) * 16 ≤ 140737488355328) : Calls Tryz.prog 56 #[dp wb, .int .i64 (i : Int)] w (SyP B wb nv wv (ws ++ X) w) := by
  have hiq := (List.getElem?_eq_some_iff.1 hq).1
  have HNx := hid (h.q.each q (List.mem_of_getElem? hq))
  obtain ⟨p, cap, hnv, hc1, hc2⟩ := h.q.sl.form
  unfold maxLen at hc2
  have hsl := h.q.sl
  rw [hnv] at hsl
  obtain ⟨g, og, rfl, hgB, hcl⟩ := hsl.at (j := i) hq
  have HCl := hid hcl
  have cb := block_cell h.r.blk
  have i0 : (0 : Int) ≤ i := by omega
  have i1 : (i : Int) < qs.length := by omega
  have HW := hid h
  have HX := hid hX
  have HK := hid hk
  have HBd := hid hb
  have HB0 : Hid (Below w.heap.size w (w.alloc (.cells zNd 44))) := (Below.refl _ _).alloc (Nat.le_refl _) _
  subst hnv
  clear h hX hq hcl hsl hk hiq hb
  have M1 : Hid True := trivial
  go_enter Tryz.func56, Tryz.ntmps56
  go_upto_region 1 with (first
    | (clear M1; refine load_nx (q := q) rfl _ rfl rfl HCl.out ?_)
    | (refine store_nx (q := q) rfl _ _ rfl rfl rfl (nx_one HNx.out) (alloc_block w _) rfl ?_; intro w4 h4 k4; have H4 := hid h4; have K4 := hid k4; clear h4 k4))
  have c0 : w4.cell? ⟨w.heap.size, 0, none⟩ = some (.int .i64 5) := by rw [← HK.out]; exact block_cell H4.out 0
  have HC4 : Hid (CellsAt w4 w.heap.size 0 q.cells) := fun j u hj => by rw [Nat.zero_add, block_cell H4.out j]; simpa using hj
  have HB4 : Hid (Below w.heap.size w w4) := HB0.out.trans (K4.out.below (by simp) (fun k e => by omega))
  have HY := hid (HX.out w4 wv ws (HW.out.on HB4.out) HBd.out)
  clear cb
  go_wp2_with (first
    | (refine load_nx (q := q) rfl _ rfl rfl HC4.out ?_)
    | (go_at_call 102; refine HY.out.mono ?_; rintro e w5 hs; have HS5 := hid hs; obtain ⟨rfl, -⟩ := id hs; clear hs))
  go_end0
  exact SyP.of HB4.out HS5.out
set_option maxRecDepth 100000 in
set_option maxHeartbeats 2000000 in
theorem wnode_6 {i : Nat} {X : List (List UInt8)} (hX : NodO B qs wb nv 102 q X) (hq : qs[i]? = some q) (hk : q.np.kind = 6) (h : Ws B qs w wb nv wv ws) (hb : (ws.length + X.length) * 16 ≤ 140737488355328) : Calls Tryz.prog 56 #[dp wb, .int .i64 (i : Int)] w (SyP B wb nv wv (ws ++ X) w) := by
  have hiq := (List.getElem?_eq_some_iff.1 hq).1
  have HNx := hid (h.q.each q (List.mem_of_getElem? hq))
  obtain ⟨p, cap, hnv, hc1, hc2⟩ := h.q.sl.form
  unfold maxLen at hc2
  have hsl := h.q.sl
  rw [hnv] at hsl
  obtain ⟨g, og, rfl, hgB, hcl⟩ := hsl.at (j := i) hq
  have HCl := hid hcl
  have cb := block_cell h.r.blk
  have i0 : (0 : Int) ≤ i := by omega
  have i1 : (i : Int) < qs.length := by omega
  have HW := hid h
  have HX := hid hX
  have HK := hid hk
  have HBd := hid hb
  have HB0 : Hid (Below w.heap.size w (w.alloc (.cells zNd 44))) := (Below.refl _ _).alloc (Nat.le_refl _) _
  subst hnv
  clear h hX hq hcl hsl hk hiq hb
  have M1 : Hid True := trivial
  go_enter Tryz.func56, Tryz.ntmps56
  go_upto_region 1 with (first
    | (clear M1; refine load_nx (q := q) rfl _ rfl rfl HCl.out ?_)
    | (refine store_nx (q := q) rfl _ _ rfl rfl rfl (nx_one HNx.out) (alloc_block w _) rfl ?_; intro w4 h4 k4; have H4 := hid h4; have K4 := hid k4; clear h4 k4))
  have c0 : w4.cell? ⟨w.heap.size, 0, none⟩ = some (.int .i64 6) := by rw [← HK.out]; exact block_cell H4.out 0
  have HC4 : Hid (CellsAt w4 w.heap.size 0 q.cells) := fun j u hj => by rw [Nat.zero_add, block_cell H4.out j]; simpa using hj
  have HB4 : Hid (Below w.heap.size w w4) := HB0.out.trans (K4.out.below (by simp) (fun k e => by omega))
  have HY := hid (HX.out w4 wv ws (HW.out.on HB4.out) HBd.out)
  clear cb
  go_wp2_with (first
    | (refine load_nx (q := q) rfl _ rfl rfl HC4.out ?_)
    | (go_at_call 102; refine HY.out.mono ?_; rintro e w5 hs; have HS5 := hid hs; obtain ⟨rfl, -⟩ := id hs; clear hs))
  go_end0
  exact SyP.of HB4.out HS5.out
set_option maxRecDepth 100000 in
set_option maxHeartbeats 2000000 in
theorem wnode_7 {i : Nat} {X : List (List UInt8)} (hX : NodO B qs wb nv 102 q X) (hq : qs[i]? = some q) (hk : q.np.kind = 7) (h : Ws B qs w wb nv wv ws) (hb : (ws.length + X.length) * 16 ≤ 140737488355328) : Calls Tryz.prog 56 #[dp wb, .int .i64 (i : Int)] w (SyP B wb nv wv (ws ++ X) w) := by
  have hiq := (List.getElem?_eq_some_iff.1 hq).1
  have HNx := hid (h.q.each q (List.mem_of_getElem? hq))
  obtain ⟨p, cap, hnv, hc1, hc2⟩ := h.q.sl.form
  unfold maxLen at hc2
  have hsl := h.q.sl
  rw [hnv] at hsl
  obtain ⟨g, og, rfl, hgB, hcl⟩ := hsl.at (j := i) hq
  have HCl := hid hcl
  have cb := block_cell h.r.blk
  have i0 : (0 : Int) ≤ i := by omega
  have i1 : (i : Int) < qs.length := by omega
  have HW := hid h
  have HX := hid hX
  have HK := hid hk
  have HBd := hid hb
  have HB0 : Hid (Below w.heap.size w (w.alloc (.cells zNd 44))) := (Below.refl _ _).alloc (Nat.le_refl _) _
  subst hnv
  clear h hX hq hcl hsl hk hiq hb
  have M1 : Hid True := trivial
  go_enter Tryz.func56, Tryz.ntmps56
  go_upto_region 1 with (first
    | (clear M1; refine load_nx (q := q) rfl _ rfl rfl HCl.out ?_)
    | (refine store_nx (q := q) rfl _ _ rfl rfl rfl (nx_one HNx.out) (alloc_block w _) rfl ?_; intro w4 h4 k4; have H4 := hid h4; have K4 := hid k4; clear h4 k4))
  have c0 : w4.cell? ⟨w.heap.size, 0, none⟩ = some (.int .i64 7) := by rw [← HK.out]; exact block_cell H4.out 0
  have HC4 : Hid (CellsAt w4 w.heap.size 0 q.cells) := fun j u hj => by rw [Nat.zero_add, block_cell H4.out j]; simpa using hj
  have HB4 : Hid (Below w.heap.size w w4) := HB0.out.trans (K4.out.below (by simp) (fun k e => by omega))
  have HY := hid (HX.out w4 wv ws (HW.out.on HB4.out) HBd.out)
  clear cb
  go_wp2_with (first
    | (refine load_nx (q := q) rfl _ rfl rfl HC4.out ?_)
    | (go_at_call 102; refine HY.out.mono ?_; rintro e w5 hs; have HS5 := hid hs; obtain ⟨rfl, -⟩ := id hs; clear hs))
  go_end0
  exact SyP.of HB4.out HS5.out
set_option maxRecDepth 100000 in
set_option maxHeartbeats 2000000 in
theorem wnode_8 {i : Nat} {X : List (List UInt8)} (hX : NodO B qs wb nv 102 q X) (hq : qs[i]? = some q) (hk : q.np.kind = 8) (h : Ws B qs w wb nv wv ws) (hb : (ws.length + X.length) * 16 ≤ 140737488355328) : Calls Tryz.prog 56 #[dp wb, .int .i64 (i : Int)] w (SyP B wb nv wv (ws ++ X) w) := by
  have hiq := (List.getElem?_eq_some_iff.1 hq).1
  have HNx := hid (h.q.each q (List.mem_of_getElem? hq))
  obtain ⟨p, cap, hnv, hc1, hc2⟩ := h.q.sl.form
  unfold maxLen at hc2
  have hsl := h.q.sl
  rw [hnv] at hsl
  obtain ⟨g, og, rfl, hgB, hcl⟩ := hsl.at (j := i) hq
  have HCl := hid hcl
  have cb := block_cell h.r.blk
  have i0 : (0 : Int) ≤ i := by omega
  have i1 : (i : Int) < qs.length := by omega
  have HW := hid h
  have HX := hid hX
  have HK := hid hk
  have HBd := hid hb
  have HB0 : Hid (Below w.heap.size w (w.alloc (.cells zNd 44))) := (Below.refl _ _).alloc (Nat.le_refl _) _
  subst hnv
  clear h hX hq hcl hsl hk hiq hb
  have M1 : Hid True := trivial
  go_enter Tryz.func56, Tryz.ntmps56
  go_upto_region 1 with (first
    | (clear M1; refine load_nx (q := q) rfl _ rfl rfl HCl.out ?_)
    | (refine store_nx (q := q) rfl _ _ rfl rfl rfl (nx_one HNx.out) (alloc_block w _) rfl ?_; intro w4 h4 k4; have H4 := hid h4; have K4 := hid k4; clear h4 k4))
  have c0 : w4.cell? ⟨w.heap.size, 0, none⟩ = some (.int .i64 8) := by rw [← HK.out]; exact block_cell H4.out 0
  have HC4 : Hid (CellsAt w4 w.heap.size 0 q.cells) := fun j u hj => by rw [Nat.zero_add, block_cell H4.out j]; simpa using hj
  have HB4 : Hid (Below w.heap.size w w4) := HB0.out.trans (K4.out.below (by simp) (fun k e => by omega))
  have HY := hid (HX.out w4 wv ws (HW.out.on HB4.out) HBd.out)
  clear cb
  go_wp2_with (first
    | (refine load_nx (q := q) rfl _ rfl rfl HC4.out ?_)
    | (go_at_call 102; refine HY.out.mono ?_; rintro e w5 hs; have HS5 := hid hs; obtain ⟨rfl, -⟩ := id hs; clear hs))
  go_end0
  exact SyP.of HB4.out HS5.out
set_option maxRecDepth 100000 in
set_option maxHeartbeats 2000000 in
theorem wnode_11 {i : Nat} {X : List (List UInt8)} (hX : NodO B qs wb nv 101 q X) (hq : qs[i]? = some q) (hk : q.np.kind = 11) (h : Ws B qs w wb nv wv ws) (hb : (ws.length + X.length) * 16 ≤ 140737488355328) : Calls Tryz.prog 56 #[dp wb, .int .i64 (i : Int)] w (SyP B wb nv wv (ws ++ X) w) := by
  have hiq := (List.getElem?_eq_some_iff.1 hq).1
  have HNx := hid (h.q.each q (List.mem_of_getElem? hq))
  obtain ⟨p, cap, hnv, hc1, hc2⟩ := h.q.sl.form
  unfold maxLen at hc2
  have hsl := h.q.sl
  rw [hnv] at hsl
  obtain ⟨g, og, rfl, hgB, hcl⟩ := hsl.at (j := i) hq
  have HCl := hid hcl
  have cb := block_cell h.r.blk
  have i0 : (0 : Int) ≤ i := by omega
  have i1 : (i : Int) < qs.length := by omega
  have HW := hid h
  have HX := hid hX
  have HK := hid hk
  have HBd := hid hb
  have HB0 : Hid (Below w.heap.size w (w.alloc (.cells zNd 44))) := (Below.refl _ _).alloc (Nat.le_refl _) _
  subst hnv
  clear h hX hq hcl hsl hk hiq hb
  have M1 : Hid True := trivial
  go_enter Tryz.func56, Tryz.ntmps56
  go_upto_region 1 with (first
    | (clear M1; refine load_nx (q := q) rfl _ rfl rfl HCl.out ?_)
    | (refine store_nx (q := q) rfl _ _ rfl rfl rfl (nx_one HNx.out) (alloc_block w _) rfl ?_; intro w4 h4 k4; have H4 := hid h4; have K4 := hid k4; clear h4 k4))
  have c0 : w4.cell? ⟨w.heap.size, 0, none⟩ = some (.int .i64 11) := by rw [← HK.out]; exact block_cell H4.out 0
  have HC4 : Hid (CellsAt w4 w.heap.size 0 q.cells) := fun j u hj => by rw [Nat.zero_add, block_cell H4.out j]; simpa using hj
  have HB4 : Hid (Below w.heap.size w w4) := HB0.out.trans (K4.out.below (by simp) (fun k e => by omega))
  have HY := hid (HX.out w4 wv ws (HW.out.on HB4.out) HBd.out)
  clear cb
  go_wp2_with (first
    | (refine load_nx (q := q) rfl _ rfl rfl HC4.out ?_)
    | (go_at_call 101; refine HY.out.mono ?_; rintro e w5 hs; have HS5 := hid hs; obtain ⟨rfl, -⟩ := id hs; clear hs))
  go_end0
  exact SyP.of HB4.out HS5.out
set_option maxRecDepth 100000 in
set_option maxHeartbeats 2000000 in
theorem wnode_12 {i : Nat} {X : List (List UInt8)} (hX : NodO B qs wb nv 101 q X) (hq : qs[i]? = some q) (hk : q.np.kind = 12) (h : Ws B qs w wb nv wv ws) (hb : (ws.length + X.length) * 16 ≤ 140737488355328) : Calls Tryz.prog 56 #[dp wb, .int .i64 (i : Int)] w (SyP B wb nv wv (ws ++ X) w) := by
  have hiq := (List.getElem?_eq_some_iff.1 hq).1
  have HNx := hid (h.q.each q (List.mem_of_getElem? hq))
  obtain ⟨p, cap, hnv, hc1, hc2⟩ := h.q.sl.form
  unfold maxLen at hc2
  have hsl := h.q.sl
  rw [hnv] at hsl
  obtain ⟨g, og, rfl, hgB, hcl⟩ := hsl.at (j := i) hq
  have HCl := hid hcl
  have cb := block_cell h.r.blk
  have i0 : (0 : Int) ≤ i := by omega
  have i1 : (i : Int) < qs.length := by omega
  have HW := hid h
  have HX := hid hX
  have HK := hid hk
  have HBd := hid hb
  have HB0 : Hid (Below w.heap.size w (w.alloc (.cells zNd 44))) := (Below.refl _ _).alloc (Nat.le_refl _) _
  subst hnv
  clear h hX hq hcl hsl hk hiq hb
  have M1 : Hid True := trivial
  go_enter Tryz.func56, Tryz.ntmps56
  go_upto_region 1 with (first
    | (clear M1; refine load_nx (q := q) rfl _ rfl rfl HCl.out ?_)
    | (refine store_nx (q := q) rfl _ _ rfl rfl rfl (nx_one HNx.out) (alloc_block w _) rfl ?_; intro w4 h4 k4; have H4 := hid h4; have K4 := hid k4; clear h4 k4))
  have c0 : w4.cell? ⟨w.heap.size, 0, none⟩ = some (.int .i64 12) := by rw [← HK.out]; exact block_cell H4.out 0
  have HC4 : Hid (CellsAt w4 w.heap.size 0 q.cells) := fun j u hj => by rw [Nat.zero_add, block_cell H4.out j]; simpa using hj
  have HB4 : Hid (Below w.heap.size w w4) := HB0.out.trans (K4.out.below (by simp) (fun k e => by omega))
  have HY := hid (HX.out w4 wv ws (HW.out.on HB4.out) HBd.out)
  clear cb
  go_wp2_with (first
    | (refine load_nx (q := q) rfl _ rfl rfl HC4.out ?_)
    | (go_at_call 101; refine HY.out.mono ?_; rintro e w5 hs; have HS5 := hid hs; obtain ⟨rfl, -⟩ := id hs; clear hs))
  go_end0
  exact SyP.of HB4.out HS5.out
set_option maxRecDepth 100000 in
set_option maxHeartbeats 2000000 in
theorem wnode_13 {i : Nat} {X : List (List UInt8)} (hX : NodO B qs wb nv 101 q X) (hq : qs[i]? = some q) (hk : q.np.kind = 13) (h : Ws B qs w wb nv wv ws) (hb : (ws.length + X.length) * 16 ≤ 140737488355328) : Calls Tryz.prog 56 #[dp wb, .int .i64 (i : Int)] w (SyP B wb nv wv (ws ++ X) w) := by
  have hiq := (List.getElem?_eq_some_iff.1 hq).1
  have HNx := hid (h.q.each q (List.mem_of_getElem? hq))
  obtain ⟨p, cap, hnv, hc1, hc2⟩ := h.q.sl.form
  unfold maxLen at hc2
  have hsl := h.q.sl
  rw [hnv] at hsl
  obtain ⟨g, og, rfl, hgB, hcl⟩ := hsl.at (j := i) hq
  have HCl := hid hcl
  have cb := block_cell h.r.blk
  have i0 : (0 : Int) ≤ i := by omega
  have i1 : (i : Int) < qs.length := by omega
  have HW := hid h
  have HX := hid hX
  have HK := hid hk
  have HBd := hid hb
  have HB0 : Hid (Below w.heap.size w (w.alloc (.cells zNd 44))) := (Below.refl _ _).alloc (Nat.le_refl _) _
  subst hnv
  clear h hX hq hcl hsl hk hiq hb
  have M1 : Hid True := trivial
  go_enter Tryz.func56, Tryz.ntmps56
  go_upto_region 1 with (first
    | (clear M1; refine load_nx (q := q) rfl _ rfl rfl HCl.out ?_)
    | (refine store_nx (q := q) rfl _ _ rfl rfl rfl (nx_one HNx.out) (alloc_block w _) rfl ?_; intro w4 h4 k4; have H4 := hid h4; have K4 := hid k4; clear h4 k4))
  have c0 : w4.cell? ⟨w.heap.size, 0, none⟩ = some (.int .i64 13) := by rw [← HK.out]; exact block_cell H4.out 0
  have HC4 : Hid (CellsAt w4 w.heap.size 0 q.cells) := fun j u hj => by rw [Nat.zero_add, block_cell H4.out j]; simpa using hj
  have HB4 : Hid (Below w.heap.size w w4) := HB0.out.trans (K4.out.below (by simp) (fun k e => by omega))
  have HY := hid (HX.out w4 wv ws (HW.out.on HB4.out) HBd.out)
  clear cb
  go_wp2_with (first
    | (refine load_nx (q := q) rfl _ rfl rfl HC4.out ?_)
    | (go_at_call 101; refine HY.out.mono ?_; rintro e w5 hs; have HS5 := hid hs; obtain ⟨rfl, -⟩ := id hs; clear hs))
  go_end0
  exact SyP.of HB4.out HS5.out
set_option maxRecDepth 100000 in
set_option maxHeartbeats 2000000 in
theorem wnode_14 {i : Nat} {X : List (List UInt8)} (hX : NodO B qs wb nv 101 q X) (hq : qs[i]? = some q) (hk : q.np.kind = 14) (h : Ws B qs w wb nv wv ws) (hb : (ws.length + X.length) * 16 ≤ 140737488355328) : Calls Tryz.prog 56 #[dp wb, .int .i64 (i : Int)] w (SyP B wb nv wv (ws ++ X) w) := by
  have hiq := (List.getElem?_eq_some_iff.1 hq).1
  have HNx := hid (h.q.each q (List.mem_of_getElem? hq))
  obtain ⟨p, cap, hnv, hc1, hc2⟩ := h.q.sl.form
  unfold maxLen at hc2
  have hsl := h.q.sl
  rw [hnv] at hsl
  obtain ⟨g, og, rfl, hgB, hcl⟩ := hsl.at (j := i) hq
  have HCl := hid hcl
  have cb := block_cell h.r.blk
  have i0 : (0 : Int) ≤ i := by omega
  have i1 : (i : Int) < qs.length := by omega
  have HW := hid h
  have HX := hid hX
  have HK := hid hk
  have HBd := hid hb
  have HB0 : Hid (Below w.heap.size w (w.alloc (.cells zNd 44))) := (Below.refl _ _).alloc (Nat.le_refl _) _
  subst hnv
  clear h hX hq hcl hsl hk hiq hb
  have M1 : Hid True := trivial
  go_enter Tryz.func56, Tryz.ntmps56
  go_upto_region 1 with (first
    | (clear M1; refine load_nx (q := q) rfl _ rfl rfl HCl.out ?_)
    | (refine store_nx (q := q) rfl _ _ rfl rfl rfl (nx_one HNx.out) (alloc_block w _) rfl ?_; intro w4 h4 k4; have H4 := hid h4; have K4 := hid k4; clear h4 k4))
  have c0 : w4.cell? ⟨w.heap.size, 0, none⟩ = some (.int .i64 14) := by rw [← HK.out]; exact block_cell H4.out 0
  have HC4 : Hid (CellsAt w4 w.heap.size 0 q.cells) := fun j u hj => by rw [Nat.zero_add, block_cell H4.out j]; simpa using hj
  have HB4 : Hid (Below w.heap.size w w4) := HB0.out.trans (K4.out.below (by simp) (fun k e => by omega))
  have HY := hid (HX.out w4 wv ws (HW.out.on HB4.out) HBd.out)
  clear cb
  go_wp2_with (first
    | (refine load_nx (q := q) rfl _ rfl rfl HC4.out ?_)
    | (go_at_call 101; refine HY.out.mono ?_; rintro e w5 hs; have HS5 := hid hs; obtain ⟨rfl, -⟩ := id hs; clear hs))
  go_end0
  exact SyP.of HB4.out HS5.out
set_option maxRecDepth 100000 in
set_option maxHeartbeats 2000000 in
theorem wnode_15 {i : Nat} {X : List (List UInt8)} (hX : NodO B qs wb nv 101 q X) (hq : qs[i]? = some q) (hk : q.np.kind = 15) (h : Ws B qs w wb nv wv ws) (hb : (ws.length + X.length) * 16 ≤ 140737488355328) : Calls Tryz.prog 56 #[dp wb, .int .i64 (i : Int)] w (SyP B wb nv wv (ws ++ X) w) := by
  have hiq := (List.getElem?_eq_some_iff.1 hq).1
  have HNx := hid (h.q.each q (List.mem_of_getElem? hq))
  obtain ⟨p, cap, hnv, hc1, hc2⟩ := h.q.sl.form
  unfold maxLen at hc2
  have hsl := h.q.sl
  rw [hnv] at hsl
  obtain ⟨g, og, rfl, hgB, hcl⟩ := hsl.at (j := i) hq
  have HCl := hid hcl
  have cb := block_cell h.r.blk
  have i0 : (0 : Int) ≤ i := by omega
  have i1 : (i : Int) < qs.length := by omega
  have HW := hid h
  have HX := hid hX
  have HK := hid hk
  have HBd := hid hb
  have HB0 : Hid (Below w.heap.size w (w.alloc (.cells zNd 44))) := (Below.refl _ _).alloc (Nat.le_refl _) _
  subst hnv
  clear h hX hq hcl hsl hk hiq hb
  have M1 : Hid True := trivial
  go_enter Tryz.func56, Tryz.ntmps56
  go_upto_region 1 with (first
    | (clear M1; refine load_nx (q := q) rfl _ rfl rfl HCl.out ?_)
    | (refine store_nx (q := q) rfl _ _ rfl rfl rfl (nx_one HNx.out) (alloc_block w _) rfl ?_; intro w4 h4 k4; have H4 := hid h4; have K4 := hid k4; clear h4 k4))
  have c0 : w4.cell? ⟨w.heap.size, 0, none⟩ = some (.int .i64 15) := by rw [← HK.out]; exact block_cell H4.out 0
  have HC4 : Hid (CellsAt w4 w.heap.size 0 q.cells) := fun j u hj => by rw [Nat.zero_add, block_cell H4.out j]; simpa using hj
  have HB4 : Hid (Below w.heap.size w w4) := HB0.out.trans (K4.out.below (by simp) (fun k e => by omega))
  have HY := hid (HX.out w4 wv ws (HW.out.on HB4.out) HBd.out)
  clear cb
  go_wp2_with (first
    | (refine load_nx (q := q) rfl _ rfl rfl HC4.out ?_)
    | (go_at_call 101; refine HY.out.mono ?_; rintro e w5 hs; have HS5 := hid hs; obtain ⟨rfl, -⟩ := id hs; clear hs))
  go_end0
  exact SyP.of HB4.out HS5.out
theorem l_one {l : List Int} {i : Nat} (h : (l.length : Int) = 1) (ha : ∀ e ∈ l, 0 ≤ e ∧ e < (i : Int)) : ∃ a : Nat, l = [(a : Int)] ∧ a < i := by
  match l, h with
  | [x], _ =>
    obtain ⟨h1, h2⟩ := ha x (by simp)
    exact ⟨x.toNat, by simp; omega, by omega⟩
theorem l_two {l : List Int} {i : Nat} (h : (l.length : Int) = 2) (ha : ∀ e ∈ l, 0 ≤ e ∧ e < (i : Int)) : ∃ a b : Nat, l = [(a : Int), (b : Int)] ∧ a < i ∧ b < i := by
  match l, h with
  | [x, y], _ =>
    obtain ⟨h1, h2⟩ := ha x (by simp)
    obtain ⟨h3, h4⟩ := ha y (by simp)
    exact ⟨x.toNat, y.toNat, by simp; omega, by omega, by omega⟩
theorem below_kinds {k : Int} {n : Nat} (h : (n : Int) = belowN k) : k = 1 ∨ k = 2 ∨ k = 3 ∨ k = 4 ∨ k = 5 ∨ k = 6 ∨ k = 7 ∨ k = 8 ∨ k = 11 ∨ k = 12 ∨ k = 13 ∨ k = 14 ∨ k = 15 := by
  unfold belowN at h
  split at h
  · omega
  · split at h
    · omega
    · split at h
      · omega
      · omega
set_option maxRecDepth 100000 in
theorem wnode_all (hA : Ahd (qs.map xn)) (hO : ∀ q ∈ qs, NxOk q) : ∀ d, NodeP B qs wb nv d
  | 0 => fun i _ _ _ h => absurd h (Nat.not_lt_zero _)
  | d + 1 => by
    have hN := wnode_all hA hO d
    intro i w wv ws hi hq h hb
    obtain ⟨q, hqi⟩ : ∃ q, qs[i]? = some q := ⟨_, List.getElem?_eq_getElem hq⟩
    have hm := List.mem_of_getElem? hqi
    have hx : (qs.map xn)[i]? = some (xn q) := by rw [List.getElem?_map, hqi]; rfl
    obtain ⟨hlen, hall⟩ := hA i (xn q) hx
    replace hlen : (q.np.l.length : Int) = belowN q.np.kind := hlen
    replace hall : ∀ e ∈ q.np.l, 0 ≤ e ∧ e < (i : Int) := hall
    rw [wd_some hx] at hb ⊢
    show Calls _ _ _ _ (SyP B wb nv wv (ws ++ nodeX (qs.map xn) (wd (qs.map xn) d) q.np (vtx q)) w)
    replace hb : (ws.length + (nodeX (qs.map xn) (wd (qs.map xn) d) q.np (vtx q)).length) * 16 ≤ 140737488355328 := hb
    rcases below_kinds hlen with hk | hk | hk | hk | hk | hk | hk | hk | hk | hk | hk | hk | hk
    · have e0 : nodeX (qs.map xn) (wd (qs.map xn) d) q.np (vtx q) = fetchW q.np := by unfold nodeX; rw [if_pos hk]
      rw [e0] at hb ⊢
      exact wnode_1 (fun w wv ws h hb => wfetch_any h (hO q hm) hb) hqi hk h hb
    · have e0 : nodeX (qs.map xn) (wd (qs.map xn) d) q.np (vtx q) = stepX (wd (qs.map xn) d) q.np := by unfold nodeX; rw [if_neg (by rw [hk]; decide), if_neg (by rw [hk]; decide)]
      rw [e0] at hb ⊢
      obtain ⟨a, b, hl, ha, hb'⟩ := l_two (show (q.np.l.length : Int) = 2 by rw [hlen, hk]; decide) hall
      exact wnode_2 (fun w wv ws h hb => wstep_2 hN (by omega) (by omega) h hm hk hl hb) hqi hk h hb
    · have e0 : nodeX (qs.map xn) (wd (qs.map xn) d) q.np (vtx q) = stepX (wd (qs.map xn) d) q.np := by unfold nodeX; rw [if_neg (by rw [hk]; decide), if_neg (by rw [hk]; decide)]
      rw [e0] at hb ⊢
      obtain ⟨a, hl, ha⟩ := l_one (show (q.np.l.length : Int) = 1 by rw [hlen, hk]; decide) hall
      exact wnode_3 (fun w wv ws h hb => wstep_3 hN (by omega) h hm hk hl hb) hqi hk h hb
    · have e0 : nodeX (qs.map xn) (wd (qs.map xn) d) q.np (vtx q) = stepX (wd (qs.map xn) d) q.np := by unfold nodeX; rw [if_neg (by rw [hk]; decide), if_neg (by rw [hk]; decide)]
      rw [e0] at hb ⊢
      obtain ⟨a, hl, ha⟩ := l_one (show (q.np.l.length : Int) = 1 by rw [hlen, hk]; decide) hall
      exact wnode_4 (fun w wv ws h hb => wstep_4 hN (by omega) h hm (hO q hm) hk hl hb) hqi hk h hb
    · have e0 : nodeX (qs.map xn) (wd (qs.map xn) d) q.np (vtx q) = stepX (wd (qs.map xn) d) q.np := by unfold nodeX; rw [if_neg (by rw [hk]; decide), if_neg (by rw [hk]; decide)]
      rw [e0] at hb ⊢
      obtain ⟨a, hl, ha⟩ := l_one (show (q.np.l.length : Int) = 1 by rw [hlen, hk]; decide) hall
      exact wnode_5 (fun w wv ws h hb => wstep_5 hN (by omega) h hm hk hl hb) hqi hk h hb
    · have e0 : nodeX (qs.map xn) (wd (qs.map xn) d) q.np (vtx q) = stepX (wd (qs.map xn) d) q.np := by unfold nodeX; rw [if_neg (by rw [hk]; decide), if_neg (by rw [hk]; decide)]
      rw [e0] at hb ⊢
      obtain ⟨a, hl, ha⟩ := l_one (show (q.np.l.length : Int) = 1 by rw [hlen, hk]; decide) hall
      exact wnode_6 (fun w wv ws h hb => wstep_6 hN (by omega) h hm (hO q hm) hk hl hb) hqi hk h hb
    · have e0 : nodeX (qs.map xn) (wd (qs.map xn) d) q.np (vtx q) = stepX (wd (qs.map xn) d) q.np := by unfold nodeX; rw [if_neg (by rw [hk]; decide), if_neg (by rw [hk]; decide)]
      rw [e0] at hb ⊢
      obtain ⟨a, b, hl, ha, hb'⟩ := l_two (show (q.np.l.length : Int) = 2 by rw [hlen, hk]; decide) hall
      exact wnode_7 (fun w wv ws h hb => wstep_7 hN (by omega) (by omega) h hm hk hl hb) hqi hk h hb
    · have e0 : nodeX (qs.map xn) (wd (qs.map xn) d) q.np (vtx q) = stepX (wd (qs.map xn) d) q.np := by unfold nodeX; rw [if_neg (by rw [hk]; decide), if_neg (by rw [hk]; decide)]
      rw [e0] at hb ⊢
      obtain ⟨a, b, hl, ha, hb'⟩ := l_two (show (q.np.l.length : Int) = 2 by rw [hlen, hk]; decide) hall
      exact wnode_8 (fun w wv ws h hb => wstep_8 hN (by omega) (by omega) h hm hk hl hb) hqi hk h hb
    · have e0 : nodeX (qs.map xn) (wd (qs.map xn) d) q.np (vtx q) = condX (qs.map xn) (wd (qs.map xn) d) q.np (vtx q) := by unfold nodeX; rw [if_neg (by rw [hk]; decide), if_pos (by rw [hk]; decide)]
      rw [e0] at hb ⊢
      obtain ⟨a, b, hl, ha, hb'⟩ := l_two (show (q.np.l.length : Int) = 2 by rw [hlen, hk]; decide) hall
      exact wnode_11 (fun w wv ws h hb => wcond_11 hN (by omega) (by omega) h hm hk hl hb) hqi hk h hb
    · have e0 : nodeX (qs.map xn) (wd (qs.map xn) d) q.np (vtx q) = condX (qs.map xn) (wd (qs.map xn) d) q.np (vtx q) := by unfold nodeX; rw [if_neg (by rw [hk]; decide), if_pos (by rw [hk]; decide)]
      rw [e0] at hb ⊢
      obtain ⟨a, b, hl, ha, hb'⟩ := l_two (show (q.np.l.length : Int) = 2 by rw [hlen, hk]; decide) hall
      exact wnode_12 (fun w wv ws h hb => wcond_12 hN (by omega) (by omega) h hm hk hl hb) hqi hk h hb
    · have e0 : nodeX (qs.map xn) (wd (qs.map xn) d) q.np (vtx q) = condX (qs.map xn) (wd (qs.map xn) d) q.np (vtx q) := by unfold nodeX; rw [if_neg (by rw [hk]; decide), if_pos (by rw [hk]; decide)]
      rw [e0] at hb ⊢
      obtain ⟨a, hl, ha⟩ := l_one (show (q.np.l.length : Int) = 1 by rw [hlen, hk]; decide) hall
      exact wnode_13 (fun w wv ws h hb => wcond_13 hN (by omega) h hm hk hl hb) hqi hk h hb
    · have e0 : nodeX (qs.map xn) (wd (qs.map xn) d) q.np (vtx q) = condX (qs.map xn) (wd (qs.map xn) d) q.np (vtx q) := by unfold nodeX; rw [if_neg (by rw [hk]; decide), if_pos (by rw [hk]; decide)]
      rw [e0] at hb ⊢
      exact wnode_14 (fun w wv ws h hb => wcond_14 h (hO q hm) hk hb) hqi hk h hb
    · have e0 : nodeX (qs.map xn) (wd (qs.map xn) d) q.np (vtx q) = condX (qs.map xn) (wd (qs.map xn) d) q.np (vtx q) := by unfold nodeX; rw [if_neg (by rw [hk]; decide), if_pos (by rw [hk]; decide)]
      rw [e0] at hb ⊢
      exact wnode_15 (fun w wv ws h hb => wcond_15 h (hO q hm) hk hb) hqi hk h hb
end
end Go.Proofs.YtmpjmimhoikknaaGreatDoor
namespace Go.Proofs.YtmpjmimhoikknaaGreatDoor
open Go.RowKit Go.Joins

section
variable {qs : List Nx} {w : World} {nv : Value}
abbrev zWr (nv : Value) : Array Value := #[nv, .slice none 0 0]
theorem ws_start (h : Qx (fun b => b < w.heap.size) w nv qs) (hG : Gq w) {w1 : World} (hB : Below w.heap.size w w1) (h1 : w1.heap[w.heap.size]? = some (.cells (zWr nv) 107 (0, 0))) : Ws w.heap.size qs w1 w.heap.size nv (.slice none 0 0) [] :=
  ⟨⟨Nat.le_refl _, h1, Own.nil _ _ _ _ _⟩, h.kp (T := fun _ => False) (Kp.of hB) (fun _ _ => id), hG.next hB, hG.p.g.2.1⟩
set_option maxRecDepth 100000 in
set_option maxHeartbeats 1000000 in
theorem words_any {i : Nat} (hA : Ahd (qs.map xn)) (hO : ∀ q ∈ qs, NxOk q) (hi : i < qs.length) (h : Qx (fun b => b < w.heap.size) w nv qs) (hG : Gq w) (hb : (wd (qs.map xn) (i + 1) i).length * 16 ≤ 140737488355328) : Calls Tryz.prog 36 #[nv, .int .i64 (i : Int)] w fun e w' => ∃ v, e = .returned v ∧ Own str1 1 9 w.heap.size w' v (wd (qs.map xn) (i + 1) i) ∧ Below w.heap.size w w' := by
  obtain ⟨p, cap, rfl, hc1, hc2⟩ := h.sl.form
  have HH := hid h
  have HG := hid hG
  have HN := hid (wnode_all (B := w.heap.size) (wb := w.heap.size) (nv := .slice p qs.length cap) hA hO (i + 1))
  have HI := hid hi
  have HBd := hid hb
  clear h hG hA hO hi hb
  have HB1 : Hid (Below w.heap.size w (w.alloc (.cells (zWr (.slice p qs.length cap)) 107))) := (Below.refl _ _).alloc (Nat.le_refl _) _
  have HZ1 := hid (alloc_block w (.cells (zWr (.slice p qs.length cap)) 107))
  have HW1 := hid (ws_start HH.out HG.out HB1.out HZ1.out)
  generalize hW : w.alloc (.cells (zWr (.slice p qs.length cap)) 107) = w1 at *
  have HW := hid hW
  clear hW
  go_enter Tryz.func36, Tryz.ntmps36
  go_upto_region 2 with fail
  rw [HW.out]
  go_wp2_with (go_at_call 56; refine (HN.out i w1 _ _ (Nat.lt_succ_self i) HI.out HW1.out (by simpa using HBd.out)).mono ?_; rintro e w2 hs; obtain ⟨he, wv2, hw2, -, hk2⟩ := hs; cases he; have HW2 := hid hw2; have HK2 := hid hk2; have kb := block_cell hw2.blk; obtain ⟨pw, cw, rfl⟩ := hw2.own.form; clear hw2 hk2)
  go_ret
  refine ⟨_, rfl, HW2.out.own, HB1.out.trans (HK2.out.below HB1.out.size HW1.out.r.T_ge)⟩
end
end Go.Proofs.YtmpjmimhoikknaaGreatDoor
