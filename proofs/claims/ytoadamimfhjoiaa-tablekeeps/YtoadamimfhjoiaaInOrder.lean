/-
  What table.inOrder returns, whatever function makes the rows anew.
-/
import Derived.Test.YtoadamimfhjoiaaSort
import Derived.Laws.MakeOwn
import Derived.Deep.RegionHeld
import Derived.Deep.Heap
namespace Go.Proofs.Ytoadamimfhjoiaa
open Go.RowKit Go.Sort Go.Shelf

def nilS : Value := .slice none 0 0
theorem made_one (z : Value) (n : Nat) : madeCells #[z] n = (List.replicate n z).toArray := by
  unfold madeCells
  apply Array.ext
  · simp
  · intro i h1 h2; simp [Nat.mod_one]
theorem make_rows (n : Nat) (hn : n * 24 ≤ 140737488355328) (W : World) : (Instr.makeSlice 23 (.int .i64 (n : Int)) (.int .i64 (n : Int))).run Try.prog W = .ok (.slice (some ⟨W.heap.size, 0, none⟩) n n) (W.alloc (.cells (List.replicate n nilS).toArray 35)) := by
  obtain ⟨i, hi, h0, h1, h2⟩ := info_parts info35
  have h := run_make W 23 35 i _ Try.underlying23 hi h0 .i64 .i64 (n : Int) (n : Int) (by omega) (Int.le_refl _) (by rw [h2]; omega) (by omega)
  rw [h, h1, Int.toNat_natCast, Nat.mul_one]
  show Result.ok _ (W.alloc (.cells (madeCells #[.slice none 0 0] n) 35)) = _
  rw [made_one]; rfl
/- The rows made so far, behind them what make leaves. -/
def part (hs : List Value) (n : Nat) : Array Value := (hs ++ List.replicate (n - hs.length) nilS).toArray
theorem part_set {hs : List Value} {n : Nat} (h : hs.length < n) (v : Value) : (part hs n).setIfInBounds hs.length v = part (hs ++ [v]) n := by
  obtain ⟨m, hm⟩ : ∃ m, n - hs.length = m + 1 := ⟨n - hs.length - 1, by omega⟩
  unfold part
  rw [hm, show n - (hs ++ [v]).length = m from by simp; omega, List.replicate_succ]
  apply Array.ext'
  simp
theorem part_all {hs : List Value} {n : Nat} (h : hs.length = n) : part hs n = hs.toArray := by
  unfold part; rw [h, Nat.sub_self]; simp
theorem heads_snoc {Q : Nat → Prop} {w : World} {hs : List Value} {ds : List Rw} {h : Value} {r : Rw} (hh : HeadsIn Q w hs ds) (hr : RowIn Q w h r) : HeadsIn Q w (hs ++ [h]) (ds ++ [r]) := by
  refine ⟨by simp [hh.1], fun j x y hx hy => ?_⟩
  by_cases hj : j < hs.length
  · rw [List.getElem?_append_left hj] at hx
    rw [List.getElem?_append_left (by rw [← hh.1]; exact hj)] at hy
    exact hh.2 j x y hx hy
  · rw [List.getElem?_append_right (by omega)] at hx
    rw [List.getElem?_append_right (by rw [← hh.1]; omega), ← hh.1] at hy
    cases hd : j - hs.length with
    | zero => rw [hd] at hx hy; simp at hx hy; subst hx hy; exact hr
    | succ m => rw [hd] at hx; simp at hx
/- A store into block R leaves slices in other blocks. -/
theorem SlAt.set {α : Type} {Q : Nat → Prop} {enc : α → List Value} {k : Nat} {w : World} {v : Value} {xs : List α} {R i : Nat} {u : Value} (hq : ∀ b, Q b → b ≠ R) (h : SlAt Q enc k w v xs) : SlAt Q enc k (w.setCell ⟨R, i, none⟩ u) v xs := by
  obtain ⟨p, cap, hv, hc, hm, hx⟩ := h
  exact ⟨p, cap, hv, hc, hm, fun hne => let ⟨b, o, hp, hQ, hj⟩ := hx hne; ⟨b, o, hp, hQ, fun j x hjx i' u' hu => (World.cell?_setCell_far _ _ _ _ (fun e => hq b hQ.1 e.symm)).trans (hj j x hjx i' u' hu)⟩⟩
theorem HeadsIn.set {Q : Nat → Prop} {w : World} {hs : List Value} {rs : List Rw} {R i : Nat} {u : Value} (hq : ∀ b, Q b → b ≠ R) (h : HeadsIn Q w hs rs) : HeadsIn Q (w.setCell ⟨R, i, none⟩ u) hs rs := ⟨h.1, fun j x r h1 h2 => SlAt.set hq (h.2 j x r h1 h2)⟩
theorem TabIn.set {Q : Nat → Prop} {w : World} {v : Value} {cs : List Cl} {rs : List Rw} {R i : Nat} {u : Value} (hq : ∀ b, Q b → b ≠ R) (h : TabIn Q w v cs rs) : TabIn Q (w.setCell ⟨R, i, none⟩ u) v cs rs := let ⟨c, r, h0, h1, hs, h2, h3⟩ := h; ⟨c, r, h0, h1.set hq, hs, h2.set hq, h3.set hq⟩
theorem SlAt.lt {α : Type} {Q : Nat → Prop} {enc : α → List Value} {k : Nat} {w : World} {v : Value} {xs : List α} (hk : ∀ x, (enc x).length = k) (hp : 0 < k) (h : SlAt Q enc k w v xs) : SlAt (fun b => Q b ∧ b < w.heap.size) enc k w v xs := by
  obtain ⟨p, cap, hv, hc, hm, hx⟩ := h
  refine ⟨p, cap, hv, hc, hm, fun hne => ?_⟩
  obtain ⟨b, o, hpp, hQ, hj⟩ := hx hne
  refine ⟨b, o, hpp, ⟨⟨hQ.1, ?_⟩, hQ.2⟩, hj⟩
  cases xs with
  | nil => exact absurd rfl hne
  | cons y ys =>
    have h0 := hj 0 y rfl
    have hy : (enc y)[0]? = some ((enc y)[0]'(by rw [hk]; exact hp)) := List.getElem?_eq_getElem _
    exact block_lt_of_cell (h0 0 _ hy)
theorem frozen_no {w : World} {b : Nat} {xs : Array Value} {t : TypeId} (h : w.heap[b]? = some (.cells xs t (0, 0))) (o : Nat) : w.frozen? ⟨b, o, none⟩ = false := by simp [World.frozen?, h]
theorem part_nil {hs : List Value} {n : Nat} (h : hs.length < n) : (part hs n)[hs.length]? = some nilS := by
  unfold part
  rw [List.getElem?_toArray, List.getElem?_append_right (Nat.le_refl _), Nat.sub_self, List.getElem?_replicate, if_pos (by omega)]
theorem take_map_snoc {rs : List Rw} {f : Rw → Rw} {k : Nat} (h : k < rs.length) : (rs.take (k + 1)).map f = (rs.take k).map f ++ [f rs[k]!] := by
  have e : rs[k]! = rs[k] := by rw [List.getElem!_eq_getElem?_getD, List.getElem?_eq_getElem h]; rfl
  rw [List.take_succ_eq_append_getElem h, List.map_append, e]; rfl
theorem below_set {B : Nat} {w w' : World} {R i : Nat} {u : Value} (h : Below B w w') (hR : B ≤ R) : Below B w (w'.setCell ⟨R, i, none⟩ u) := by
  refine ⟨h.os, h.tape, h.output, ?_, fun k hk => ?_⟩
  · exact Nat.le_trans h.size (by rw [World.size_setCell]; exact Nat.le_refl _)
  · rw [Deep.blk_setCell_other _ _ _ _ (by show k ≠ R; omega)]; exact h.block k hk
set_option maxHeartbeats 1000000 in
theorem inOrder_any {Qc : Nat → Prop} {c rv : Value} {cs : List Cl} {rs : List Rw} {g : Nat} {cb : Array Value} {f : Rw → Rw} {w : World} (hc : SlAt Qc Cl.cells 2 w c cs) (hr : RowsAt w rv rs)
    (eg : ∀ args w, (callFunc g args).run Try.prog w = .ok (.enter g args) w)
    (ha : ∀ (W : World) (h : Value) (r : Rw), r ∈ rs → Below w.heap.size w W → RowAt W h r → Calls Try.prog g (#[h] ++ cb) W fun e w' => ∃ v', e = .returned v' ∧ RowIn (fun b => W.heap.size ≤ b) w' v' (f r) ∧ Below W.heap.size W w') :
    Calls Try.prog 35 #[c, rv, .func (.func g) #[] cb] w fun e w' => ∃ v, e = .returned v ∧ TabIn (fun b => Qc b ∨ w.heap.size ≤ b) w' v cs (sortR (rs.map f)) ∧ Below w.heap.size w w' := by
  obtain ⟨hs, hsl, hh⟩ := hr
  have hbnd := SlAt.bound hsl
  obtain ⟨p, cap, rfl, hcap, hmax, hx⟩ := hsl
  unfold maxLen at hmax
  have HX := hid hx
  have HC := hid hc
  have HH := hid hh
  have HAN := hid ha
  clear hx hc hh ha
  generalize hn : hs.length = n at *
  have HN := hid hn
  clear hn
  have hbnd' : n * 24 ≤ 140737488355328 := hbnd
  clear hbnd
  have hmk := make_rows n hbnd'
  have HCL := hid (SlAt.lt cl_len (by omega) HC.out)
  obtain ⟨pc, capc, rfl, -⟩ := HC.out
  clear HC
  generalize cs.length = nc at *
  have hr0 : (part [] n) = Array.replicate n nilS := by unfold part; simp
  go_enter Try.func35, Try.ntmps35
  go_wp2
  have K0 := hid (block_on (alloc_block w (.cells #[.slice none 0 0, .slice none 0 0] 25)) ((Below.refl _ _).alloc (Nat.le_refl _) (.cells (Array.replicate n nilS) 35)))
  have K1 : Hid (((w.alloc (.cells #[.slice none 0 0, .slice none 0 0] 25)).alloc (.cells (Array.replicate n nilS) 35)).heap[w.heap.size + 1]? = some (.cells (part [] n) 35 (0, 0))) := by
    rw [hr0]
    have h := alloc_block (w.alloc (.cells #[.slice none 0 0, .slice none 0 0] 25)) (.cells (Array.replicate n nilS) 35)
    rw [World.size_alloc] at h
    exact h
  have HB0 := hid (((Below.refl w.heap.size w).alloc (Nat.le_refl _) (.cells #[.slice none 0 0, .slice none 0 0] 25)).alloc (by simp) (.cells (Array.replicate n nilS) 35))
  go_loopw [15] (fun i wr => ∃ (k : Nat) (hs' : List Value), k ≤ n ∧ i = .int .i64 k ∧ hs'.length = k ∧ Hid (wr.heap[w.heap.size + 1]? = some (.cells (part hs' n) 35 (0, 0))) ∧ Hid (HeadsIn (fun b => w.heap.size + 1 < b) wr hs' ((rs.take k).map f)) ∧ Hid (wr.heap[w.heap.size]? = some (.cells #[.slice none 0 0, .slice none 0 0] 25 (0, 0))) ∧ Hid (Below w.heap.size w wr)) (fun i _ => n - (intOf i).toNat)
  case atStart => exact ⟨0, [], by omega, rfl, rfl, K1.out, ⟨by simp, fun j h r h1 _ => by simp at h1⟩, K0.out, HB0.out⟩
  case round =>
    obtain ⟨k, hs', hk, rfl, hl, HK1, HH', HK0, HB⟩ := hrel
    by_cases hlt : k < n
    · have hkh : k < hs.length := by rw [HN.out]; exact hlt
      have hkr : k < rs.length := by rw [← HH.out.1]; exact hkh
      obtain ⟨b, o, rfl, -, hj⟩ := HX.out (by intro e; subst e; simp at hkh)
      have hd := head_cell (fun j x hjx => (hj j x hjx).on HB.out) (get!_some hkh)
      have HRow := hid ((HH.out.2 k _ _ (get!_some hkh) (get!_some hkr)).on HB.out)
      have HM := hid (List.mem_of_getElem? (get!_some hkr))
      generalize hs[k]! = hd0 at hd HRow
      have HT := hid (take_map_snoc (f := f) hkr)
      generalize rs[k]! = r0 at HRow HM HT
      clear hj
      have hlt1 := lt_of_block HK1.out
      go_wp2_with (first | (go_at_fn g; refine (HAN.out wr hd0 r0 HM.out HB.out HRow.out).mono ?_; rintro e w1 ⟨v', rfl, hrow, hb1⟩; have HROW := hid hrow; have HB1 := hid hb1; have K1' := hid (block_on HK1.out hb1); have hc1 : w1.cell? ⟨w.heap.size + 1, k, none⟩ = some nilS := (by rw [block_cell K1'.out]; subst hl; exact part_nil hlt); have hf1 := frozen_no K1'.out; obtain ⟨p', cap', rfl, -⟩ := hrow; clear hb1))
      generalize List.length (f r0) = n0 at *
      go_roundw
      case rel =>
        refine ⟨k + 1, hs' ++ [.slice p' n0 cap'], by omega, by go_num, by simp [hl], ?_, ?_, ?_, ?_⟩
        · show _ = _
          rw [Joins.block_setCell K1'.out, ← part_set (by omega), hl]
        · show HeadsIn _ _ _ _
          rw [HT.out]
          exact heads_snoc (HeadsIn.set (fun b (hb : w.heap.size + 1 < b) => by omega) (HH'.out.on HB1.out)) (SlAt.set (fun b (hb : w.heap.size + 1 < b) => by omega) (RowIn.imp HROW.out (fun b (hb : wr.heap.size ≤ b) => by omega)))
        · show _ = _
          rw [Deep.blk_setCell_other _ _ _ _ (by simp)]; exact block_on HK0.out HB1.out
        · exact below_set (below_on HB.out HB1.out) (by omega)
      case measure => simp [intOf]; omega
    · have hks : k = n := by omega
      subst hks
      have hrl : rs.take k = rs := by rw [List.take_of_length_le]; rw [← HH.out.1, HN.out]; exact Nat.le_refl _
      rw [hrl] at HH'
      have K1' := hid HK1.out
      rw [part_all hl] at K1'
      go_wp2_with (first | (go_at_call 50; refine (sort_any (base := w.heap.size + 1) K1'.out (fun b (hb : w.heap.size + 1 < b) => by omega) HH'.out hl hbnd' (Nat.le_refl _) (Nat.le_refl _)).mono ?_; rintro e w2 ⟨rfl, ⟨hs2, hsl, hh2⟩, hb2⟩; have HSL := hid hsl; have HH2 := hid hh2; have HB2 := hid hb2; have K2 := hid ((hb2.block w.heap.size (by omega)).trans HK0.out); have kc := block_cell K2.out; have kf := frozen_no K2.out; clear hsl hh2 hb2))
      refine bodyPost_ret (v := .agg #[.slice pc nc capc, .slice (some ⟨w.heap.size + 1, 0, none⟩) k k]) ?hv rfl ⟨_, rfl, ?ht, ?hb⟩
      case hv =>
        have KF := Joins.block_setCell (i := 1) (Joins.block_setCell (i := 0) K2.out (.slice pc nc capc)) (.slice (some ⟨w.heap.size + 1, 0, none⟩) k k)
        generalize ((w2.setCell ⟨w.heap.size, 0, none⟩ (.slice pc nc capc)).setCell ⟨w.heap.size, 1, none⟩ (.slice (some ⟨w.heap.size + 1, 0, none⟩) k k)) = WF at KF ⊢
        have kcf := block_cell KF
        clear KF kc kf
        simp [results, Try.results35, go_sem, kcf]
      case hb => exact below_set (below_set (HB.out.trans (HB2.out.mono (by omega))) (Nat.le_refl _)) (Nat.le_refl _)
      case ht =>
        refine ⟨_, _, rfl, ?_, hs2, ?_, ?_⟩
        · exact SlAt.imp (SlAt.set (fun b (hb : Qc b ∧ b < w.heap.size) => by omega) (SlAt.set (fun b (hb : Qc b ∧ b < w.heap.size) => by omega) (SlAt.on HCL.out (HB.out.trans (HB2.out.mono (by omega)))))) (fun _ hb => Or.inl hb.1)
        · exact SlAt.imp (SlAt.set (fun b (hb : b = w.heap.size + 1) => by omega) (SlAt.set (fun b (hb : b = w.heap.size + 1) => by omega) HSL.out)) (fun b (hb : b = w.heap.size + 1) => Or.inr (by omega))
        · exact HeadsIn.imp (HeadsIn.set (fun b (hb : w.heap.size + 1 < b) => by omega) (HeadsIn.set (fun b (hb : w.heap.size + 1 < b) => by omega) HH2.out)) (fun b (hb : w.heap.size + 1 < b) => Or.inr (by omega))
end Go.Proofs.Ytoadamimfhjoiaa
