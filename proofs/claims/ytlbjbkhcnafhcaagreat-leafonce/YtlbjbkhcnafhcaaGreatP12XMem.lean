/-
  How a dictionary lies in memory, and what stays while one grows.
  What New, Len, Find and Of of package streams return, for any dictionary.
  append, with where the row lies that it returns.
-/
import Derived.Test.YtlbjbkhcnafhcaaGreatP11Txt
import Derived.Maps.OwnSet
import Derived.Deep.RegionLaw
namespace Go.Proofs.YtlbjbkhcnafhcaaGreat.SN
open Go.RowKit Go.Sort Go.Maps

structure Hd where
  nm : ByteArray
  kv : Value
instance : Inhabited Hd := ⟨⟨⟨#[]⟩, .slice none 0 0⟩⟩
def Hd.cells (h : Hd) : List Value := [.string h.nm, h.kv]
theorem hd_len (h : Hd) : h.cells.length = 2 := rfl
def HeadsD (P : Nat → Prop) (w : World) (hs : List Hd) (l : List Sm) : Prop := hs.length = l.length ∧ ∀ (j : Nat) h s, hs[j]? = some h → l[j]? = some s → h.nm = s.nm ∧ RowIn (ty36 P w) w h.kv s.ks
theorem HeadsD.kp {P T : Nat → Prop} {w w' : World} {hs : List Hd} {l : List Sm} (h : HeadsD P w hs l) (hk : Kp T w w') (ht : ∀ k, ty36 P w k → ¬ T k) : HeadsD P w' hs l :=
  ⟨h.1, fun j x s h1 h2 => ⟨(h.2 j x s h1 h2).1, row_kp (h.2 j x s h1 h2).2 hk ht⟩⟩
theorem HeadsD.P {P P' : Nat → Prop} {w : World} {hs : List Hd} {l : List Sm} (h : HeadsD P w hs l) (hp : ∀ k, k < w.heap.size → P k → P' k) : HeadsD P' w hs l :=
  ⟨h.1, fun j x s h1 h2 => ⟨(h.2 j x s h1 h2).1, row_P (h.2 j x s h1 h2).2 hp⟩⟩
theorem HeadsD.snoc {P : Nat → Prop} {w : World} {hs : List Hd} {l : List Sm} {h : Hd} {s : Sm} (hh : HeadsD P w hs l) (hn : h.nm = s.nm) (hr : RowIn (ty36 P w) w h.kv s.ks) : HeadsD P w (hs ++ [h]) (l ++ [s]) := by
  refine ⟨by simp [hh.1], fun j x q h1 h2 => ?_⟩
  by_cases hlt : j < hs.length
  · rw [List.getElem?_append_left hlt] at h1
    rw [List.getElem?_append_left (by rw [← hh.1]; exact hlt)] at h2
    exact hh.2 j x q h1 h2
  · have hj : j = hs.length := by have := (List.getElem?_eq_some_iff.1 h1).1; simp at this; omega
    subst hj
    rw [List.getElem?_append_right (Nat.le_refl _)] at h1
    rw [hh.1, List.getElem?_append_right (Nat.le_refl _)] at h2
    simp at h1 h2
    subst h1 h2
    exact ⟨hn, hr⟩
/- What the map holds. -/
abbrev D1 := DataW Unit
def AgD (D : D1) (l : List Sm) : Prop := ∀ s, Gd s → Maps.has D (.string (txtL s)) = memS l s ∧ D.atKey (.string (txtL s)) (.lit (.int .i64 0)) = .lit (.int .i64 (findI l s))
theorem law9 : Keyed Tryz.prog 9 := string_keyed Tryz.underlying9
theorem zero3 (w : World) : (zeroValue 3).run Tryz.prog w = .ok (.int .i64 0) w := by kernel_rfl
theorem txt_data (s : Sm) : (txt s).data.toList = txtL s := rfl
theorem txtL_inj {s t : Sm} (hs : Gd s) (ht : Gd t) (h : txtL s = txtL t) : s = t := txt_inj hs ht (by unfold txt; rw [h])
theorem isKey (l : List UInt8) : WideAt.IsKeyLit (.string l) := trivial
theorem AgD.nil : AgD (.map []) [] := fun _ _ => ⟨rfl, rfl⟩
theorem AgD.put {D : D1} {l : List Sm} {s : Sm} (h : AgD D l) (hm : IsMap D) (hs : Gd s) (hn : s ∉ l) : AgD (D.put (.string (txtL s)) (.lit (.int .i64 (l.length : Int)))) (l ++ [s]) := by
  intro t ht
  by_cases e : t = s
  · subst e
    refine ⟨?_, ?_⟩
    · rw [has_put_same hm (isKey _)]
      simp [memS]
    · rw [atKey_put_same hm (isKey _)]
      unfold findI
      rw [if_pos (by simp), posS_new hn]
  · have hne : (Lit.string (txtL t)) ≠ .string (txtL s) := fun h => e (txtL_inj ht hs (by injection h))
    obtain ⟨h1, h2⟩ := h t ht
    refine ⟨?_, ?_⟩
    · rw [has_put_other hne, h1]
      simp [memS, e]
    · rw [atKey_put_other hne, h2]
      unfold findI
      by_cases hm : t ∈ l
      · rw [if_pos hm, if_pos (by simp [hm]), posS_app hm]
      · rw [if_neg hm, if_neg (by simp [hm, e])]
/- What else a leaf's block holds. -/
structure Fx where
  sc : Value
  rm : Value
  pt : Value
  sm : Value
structure Dn (B : Nat) (P : Nat → Prop) (w : World) (sv : Value) (m : Nat) (l : List Sm) : Prop where
  mB : B ≤ m
  row : ∃ hs, Own Hd.cells 2 97 B w sv hs ∧ HeadsD P w hs l
  map : ∃ D : D1, w.ownsMap Tryz.prog 9 (plainElem Tryz.prog 3) m l.length D ∧ AgD D l
  dc : Dc l
structure Dk (fx : Fx) (B : Nat) (P : Nat → Prop) (w : World) (b : Nat) (most : Int) (sv : Value) (m : Nat) (l : List Sm) : Prop where
  bB : B ≤ b
  mB : B ≤ m
  blk : w.heap[b]? = some (.cells #[fx.sc, fx.rm, fx.pt, .int .i64 most, sv, .map (some m), fx.sm] 72)
  row : ∃ hs, Own Hd.cells 2 97 B w sv hs ∧ HeadsD P w hs l
  map : ∃ D : D1, w.ownsMap Tryz.prog 9 (plainElem Tryz.prog 3) m l.length D ∧ AgD D l
  dc : Dc l
def Tc (b : Nat) (sv : Value) (m : Nat) (k : Nat) : Prop := k = b ∨ sv.ownBlock = some k ∨ k = m
theorem map_blk {w : World} {m n : Nat} {D : D1} (h : w.ownsMap Tryz.prog 9 (plainElem Tryz.prog 3) m n D) : ∃ es c, w.heap[m]? = some (.map es c) := let ⟨es, c, hb, _⟩ := h; ⟨es, c, hb⟩
theorem map_kp {T : Nat → Prop} {w w' : World} {m n : Nat} {D : D1} (h : w.ownsMap Tryz.prog 9 (plainElem Tryz.prog 3) m n D) (hk : Kp T w w') (ht : ¬ T m) : w'.ownsMap Tryz.prog 9 (plainElem Tryz.prog 3) m n D := by
  obtain ⟨es, c, hb, r⟩ := h
  exact ⟨es, c, hk.blk hb ht, r⟩
theorem Dk.dn {fx : Fx} {B : Nat} {P : Nat → Prop} {w : World} {b : Nat} {most : Int} {sv : Value} {m : Nat} {l : List Sm} (h : Dk fx B P w b most sv m l) : Dn B P w sv m l := ⟨h.mB, h.row, h.map, h.dc⟩
theorem Dn.kp {B : Nat} {P T : Nat → Prop} {w w' : World} {sv : Value} {m : Nat} {l : List Sm} (h : Dn B P w sv m l) (hk : Kp T w w') (hv : ∀ g, sv.ownBlock = some g → ¬ T g) (hm : ¬ T m) (ht : ∀ k, ty36 P w k → ¬ T k) : Dn B P w' sv m l := by
  obtain ⟨hs, ho, hh⟩ := h.row
  obtain ⟨D, hD, ha⟩ := h.map
  exact ⟨h.mB, ⟨hs, own_kp ho hk hv, hh.kp hk ht⟩, ⟨D, map_kp hD hk hm, ha⟩, h.dc⟩
theorem Dn.on {B : Nat} {P : Nat → Prop} {w w' : World} {sv : Value} {m : Nat} {l : List Sm} (h : Dn B P w sv m l) (hb : Below w.heap.size w w') : Dn B P w' sv m l :=
  h.kp (T := fun _ => False) (Kp.of hb) (fun _ _ => id) id (fun _ _ => id)
theorem Dn.le {B B' : Nat} {P : Nat → Prop} {w : World} {sv : Value} {m : Nat} {l : List Sm} (h : Dn B P w sv m l) (hb : B' ≤ B) : Dn B' P w sv m l :=
  let ⟨hs, ho, hh⟩ := h.row; ⟨Nat.le_trans hb h.mB, ⟨hs, own_le ho hb, hh⟩, h.map, h.dc⟩
theorem Dn.P {B : Nat} {P P' : Nat → Prop} {w : World} {sv : Value} {m : Nat} {l : List Sm} (h : Dn B P w sv m l) (hp : ∀ k, k < w.heap.size → P k → P' k) : Dn B P' w sv m l :=
  let ⟨hs, ho, hh⟩ := h.row; ⟨h.mB, ⟨hs, ho, hh.P hp⟩, h.map, h.dc⟩
theorem Dn.dk {fx : Fx} {B : Nat} {P : Nat → Prop} {w : World} {b : Nat} {most : Int} {sv : Value} {m : Nat} {l : List Sm} (h : Dn B P w sv m l) (hB : B ≤ b) (hb : w.heap[b]? = some (.cells #[fx.sc, fx.rm, fx.pt, .int .i64 most, sv, .map (some m), fx.sm] 72)) : Dk fx B P w b most sv m l := ⟨hB, h.mB, hb, h.row, h.map, h.dc⟩
theorem Dk.kp {fx : Fx} {B : Nat} {P T : Nat → Prop} {w w' : World} {b : Nat} {most : Int} {sv : Value} {m : Nat} {l : List Sm} (h : Dk fx B P w b most sv m l) (hk : Kp T w w') (hb : ¬ T b) (hv : ∀ g, sv.ownBlock = some g → ¬ T g) (hm : ¬ T m) (ht : ∀ k, ty36 P w k → ¬ T k) : Dk fx B P w' b most sv m l := by
  obtain ⟨hs, ho, hh⟩ := h.row
  obtain ⟨D, hD, ha⟩ := h.map
  exact ⟨h.bB, h.mB, hk.blk h.blk hb, ⟨hs, own_kp ho hk hv, hh.kp hk ht⟩, ⟨D, map_kp hD hk hm, ha⟩, h.dc⟩
theorem Dk.on {fx : Fx} {B : Nat} {P : Nat → Prop} {w w' : World} {b : Nat} {most : Int} {sv : Value} {m : Nat} {l : List Sm} (h : Dk fx B P w b most sv m l) (hb : Below w.heap.size w w') : Dk fx B P w' b most sv m l :=
  h.kp (T := fun _ => False) (Kp.of hb) id (fun _ _ => id) id (fun _ _ => id)
theorem Dk.P {fx : Fx} {B : Nat} {P P' : Nat → Prop} {w : World} {b : Nat} {most : Int} {sv : Value} {m : Nat} {l : List Sm} (h : Dk fx B P w b most sv m l) (hp : ∀ k, k < w.heap.size → P k → P' k) : Dk fx B P' w b most sv m l := by
  obtain ⟨hs, ho, hh⟩ := h.row
  exact ⟨h.bB, h.mB, h.blk, ⟨hs, ho, hh.P hp⟩, h.map, h.dc⟩
theorem Dk.T_ge {fx : Fx} {B : Nat} {P : Nat → Prop} {w : World} {b : Nat} {most : Int} {sv : Value} {m : Nat} {l : List Sm} (h : Dk fx B P w b most sv m l) : ∀ k, Tc b sv m k → B ≤ k := by
  obtain ⟨hs, ho, hh⟩ := h.row
  intro k hk
  rcases hk with rfl | hk | rfl
  · exact h.bB
  · exact (own_at ho hk).1
  · exact h.mB
theorem Dk.T_lt {fx : Fx} {B : Nat} {P : Nat → Prop} {w : World} {b : Nat} {most : Int} {sv : Value} {m : Nat} {l : List Sm} (h : Dk fx B P w b most sv m l) : ∀ k, Tc b sv m k → k < w.heap.size := by
  obtain ⟨hs, ho, hh⟩ := h.row
  obtain ⟨D, hD, ha⟩ := h.map
  intro k hk
  rcases hk with rfl | hk | rfl
  · exact lt_of_block h.blk
  · exact (own_at ho hk).2
  · exact hD.lt
theorem Dk.T_not {fx : Fx} {B : Nat} {P : Nat → Prop} {w : World} {b : Nat} {most : Int} {sv : Value} {m : Nat} {l : List Sm} (h : Dk fx B P w b most sv m l) {k : Nat} {cs : Array Value} {t : TypeId} {fz : Nat × Nat} (hk : w.heap[k]? = some (.cells cs t fz)) (h1 : t ≠ 72) (h2 : t ≠ 97) : ¬ Tc b sv m k := by
  obtain ⟨hs, ho, hh⟩ := h.row
  obtain ⟨D, hD, ha⟩ := h.map
  rintro (rfl | hg | rfl)
  · rw [h.blk] at hk; cases hk; exact h1 rfl
  · obtain ⟨c, f, hc⟩ := own_kind ho hg
    rw [hc] at hk; cases hk; exact h2 rfl
  · obtain ⟨es, c, hb⟩ := map_blk hD
    rw [hb] at hk; cases hk
theorem info83 : (Tryz.prog.info? 97).map (fun i => (i.zero, i.size, i.bytes)) = some (some (.agg #[.string ⟨#[]⟩, .slice none 0 0]), 2, 40) := by kernel_rfl
theorem elem83 : ElemN 64 97 2 40 := by
  obtain ⟨i, hi, h0, h1, h2⟩ := info_parts info83
  exact ⟨Tryz.underlying64, by omega, i, _, hi, h0, h1, Nat.le_of_eq h2, rfl⟩
end Go.Proofs.YtlbjbkhcnafhcaaGreat.SN
namespace Go.Proofs.YtlbjbkhcnafhcaaGreat.SN
open Go.RowKit Go.Sort Go.Maps

abbrev dp (b : Nat) : Value := .pointer (some ⟨b, 3, none⟩)
theorem alloc2_block (w : World) (x y : Obj) : ((w.alloc x).alloc y).heap[w.heap.size + 1]? = some y := by
  have := alloc_block (w.alloc x) y
  rwa [World.size_alloc] at this
set_option maxRecDepth 100000 in
set_option maxHeartbeats 1000000 in
theorem new_any {P : Nat → Prop} {most : Int} {w : World} :
    Calls Tryz.prog 22 #[.int .i64 most] w fun e w' => ∃ b m, e = .returned (.pointer (some ⟨b, 0, none⟩)) ∧ w'.heap[b]? = some (.cells #[.int .i64 most, .slice none 0 0, .map (some m)] 67) ∧ Dn w.heap.size P w' (.slice none 0 0) m [] ∧ Below w.heap.size w w' := by
  have hmm := @run_makeMap Tryz.prog
  go_enter Tryz.func22, Tryz.ntmps22
  go_wp2
  go_ret
  refine ⟨w.heap.size + 1, w.heap.size, rfl, alloc2_block _ _ _, ⟨Nat.le_refl _, ⟨[], Own.nil _ _ _ _ _, rfl, fun j h s h1 _ => by simp at h1⟩, ⟨.map [], (World.ownsMap_made _ _ _ _).alloc _, AgD.nil⟩, Dc.nil⟩, ((Below.refl _ _).alloc (Nat.le_refl _) _).alloc (by simp) _⟩
theorem key_txt {s : Sm} (h : (txt s).size ≤ maxLen) : keyOf Tryz.prog 9 (.string (txt s)) = some (.string (txtL s)) := WideMaps.keyOf_string_mk Tryz.underlying9 h
theorem txt_small {nm : ByteArray} {ks : Rw} (hl : List.length ks ≤ 2000000) (hn : nm.size ≤ 2000000) : (textV nm ks).size ≤ maxLen := by
  unfold textV
  split
  · rename_i h
    have h1 : (txt ⟨nm, ks⟩).size = (txtL ⟨nm, ks⟩).length := by show (txtL ⟨nm, ks⟩).toArray.size = _; simp
    rw [h1]
    have h2 := keysB_len h
    have h3 : nm.data.toList.length = nm.size := by rw [Array.length_toList]; rfl
    unfold txtL maxLen
    simp only [List.length_append, List.length_cons, h3]
    omega
  · decide
set_option maxRecDepth 100000 in
set_option maxHeartbeats 1000000 in
theorem find_any {fx : Fx} {B : Nat} {P : Nat → Prop} {w : World} {b : Nat} {most : Int} {sv : Value} {m : Nat} {l : List Sm} {v : Value} {s : Sm} (h : Dk fx B P w b most sv m l) (hv : RowAt w v s.ks) (hl : List.length s.ks ≤ 2000000) (hn : s.nm.size ≤ 2000000) (hr : ∀ x ∈ s.ks, Rng x) :
    Calls Tryz.prog 51 #[dp b, .string s.nm, v] w fun e w' => e = .returned (.tuple #[.int .i64 (findI l s), .bool (memS l s)]) ∧ Below w.heap.size w w' := by
  have HV := hid hv
  have HL := hid hl
  have HN := hid hn
  have HK := hid h
  have HT := hid (txt_small (nm := s.nm) hl hn)
  clear hv hl hn
  have hbl := lt_of_block h.blk
  cases hok : okK s.ks with
  | false =>
    have E1 := hid (memS_bad h.dc hok)
    have E2 := hid (findI_bad h.dc hok)
    have E3 : Hid (textE s.ks = 10) := by show _ = _; unfold textE; rw [hok]; rfl
    clear hok h hr
    go_enter Tryz.func51, Tryz.ntmps51
    go_wp2_with (first
      | (go_at_call 53; refine (text_any HV.out HL.out HN.out).mono ?_; rintro e w1 ⟨rfl, hb1⟩; rw [E3.out]))
    exact bodyPost_ret (v := .tuple #[.int .i64 (findI l s), .bool (memS l s)]) (by simp [results, Tryz.results51, go_sem, E1.out, E2.out]) rfl ⟨rfl, hb1⟩
  | true =>
    have hgd : Gd s := ⟨hok, hr⟩
    have E3 : Hid (textE s.ks = 0) := by show _ = _; unfold textE; rw [hok]; rfl
    have E4 : Hid (textV s.nm s.ks = txt s) := by show _ = _; unfold textV; rw [hok]; rfl
    have HKy := hid (key_txt (s := s) (by rw [← E4.out]; exact HT.out))
    obtain ⟨D, hD, hA⟩ := h.map
    obtain ⟨a1, a2⟩ := hA s hgd
    have HD := hid hD
    have A1 := hid a1
    have A2 := hid a2
    clear hok h hr hgd hD hA a1 a2
    go_enter Tryz.func51, Tryz.ntmps51
    go_wp2_with (first
      | (go_at_call 53; refine (text_any HV.out HL.out HN.out).mono ?_; rintro e w1 ⟨rfl, hb1⟩; rw [E3.out, E4.out]; have HB1 := hid hb1; have k1 := block_cell (HK.out.on hb1).blk; have HD1 := hid (map_kp (T := fun _ => False) HD.out (Kp.of hb1) id); clear hb1)
      | (at_lookup; refine wpList_lookup_own_ok_int _ rfl _ _ 65 rfl 9 3 .i64 law9 Tryz.underlying65 Tryz.underlying3 (zero3 _) m l.length _ rfl HD1.out _ _ rfl HKy.out ?_; intro c hat hwc; rw [A2.out] at hat; injection hat with hat; injection hat with _ hat; rw [A1.out]; subst hat))
    exact bodyPost_ret (v := .tuple #[.int .i64 (findI l s), .bool (memS l s)]) (by simp [results, Tryz.results51, go_sem]) rfl ⟨rfl, HB1.out⟩
end Go.Proofs.YtlbjbkhcnafhcaaGreat.SN
namespace Go.Proofs.YtlbjbkhcnafhcaaGreat.RN
open Go.RowKit Go.Sort

/- Where a row lies that append returns: where it lay, or in a block that was not there. -/
def At (w : World) (v v' : Value) : Prop := ∀ k, v'.ownBlock = some k → v.ownBlock = some k ∨ w.heap.size ≤ k
theorem At.refl (w : World) (v : Value) : At w v v := fun _ h => .inl h
theorem append_at {P : Program} (w : World) (base : Nat) (t ty e : TypeId) (i : TypeInfo) (z : Value) (size bytes : Nat) (ht : P.underlying t = some (.slice e)) (hi : P.info? e = some i) (hz : i.zero = some z)
    (hsize : i.size = size) (hby : i.bytes = bytes) (hzs : z.cells.size = size) (hsz : 0 < size)
    (v : Value) (n : Nat) (xs : List Value) (hown : w.ownsRow base e size v n xs)
    (a : Addr) (m c : Nat) (news : List Value) (hl : news.length = m * size) (hnews : ∀ j u, news[j]? = some u → w.cell? (a.add j) = some u) (h1 : ∀ u ∈ news, u.oneCell' = true)
    (h63 : n + m ≤ maxLen) (hbytes : (n + m) * bytes ≤ 140737488355328) {v' : Value} {w' : World} (hr : (Builtin.append_ #[t, t] ty #[v, .slice (some a) m c]).run P w = .ok v' w') : At w v v' := by
  intro k hk
  have hsmall : n + m ≤ 9223372036854775807 := by simp only [maxLen] at h63; omega
  rcases hown.2 with ⟨rfl, rfl⟩ | ⟨g, cap, cur, rfl, hbg, hg, hnc, hcm, hcs, htake⟩
  · have hx : xs = [] := List.eq_nil_of_length_eq_zero (by simpa using hown.1)
    subst hx
    obtain ⟨v2, w2, hr2, ho2, -, -⟩ := run_append_own (P := P) w w.heap.size t ty e i z size bytes ht hi hz hsize hby hzs hsz _ 0 [] (World.ownsRow_nil w w.heap.size e size) a m c news hl hnews h1 h63 hbytes (Nat.le_refl _)
    rw [hr] at hr2
    cases hr2
    exact .inr (World.ownsRow.lt ho2 k hk).1
  · subst hsize
    by_cases hroom : n + m ≤ cap
    · have hfit : n * i.size + news.length ≤ cur.size := by rw [hl, hcs, ← Nat.add_mul]; exact Nat.mul_le_mul_right _ hroom
      have hr2 := run_append_room (P := P) w t ty e i ht hi g n cap cur hg a m c news hl hnews h1 hroom hfit
      rw [hr] at hr2
      cases hr2
      exact .inl hk
    · have holds : ∀ j u, xs[j]? = some u → w.cell? ((⟨g, 0, none⟩ : Addr).add j) = some u := World.ownsRow.cells hown (g := g) rfl
      have hr2 := run_append_grow (P := P) w t ty e i z ht hi hz ⟨g, 0, none⟩ n cap xs hown.1 holds a m c news hl hnews (by omega) (by omega) (growslice_fits (by omega) (by rw [hby]; exact hbytes))
      rw [hr] at hr2
      cases hr2
      cases hk
      exact .inr (Nat.le_refl _)
theorem step_appP {ops : Array Oper} {o : Oper} {a : Act} {w : World} {K : Act → World → Prop} {Q : Exit → Act → World → Prop} {E : Prop} {α : Type} {enc : α → List Value} {k e t B N : Nat} {Qb : Nat → Prop} {xs ys : List α} {v u : Value}
    (hE : ElemN t e k N) (hk : ∀ x, (enc x).length = k) (h1 : ∀ y ∈ ys, ∀ c ∈ enc y, c.oneCell' = true) (hgd : o.guard = none) (s x : Operand) (ho : o.op = .call { callee := .builtin .append, args := #[s, x], argTypes := #[t, t] })
    (hs : a.eval s = v) (hx : a.eval x = u) (hown : Own enc k e B w v xs) (hu : SlAt Qb enc k w u ys) (hb : (xs.length + ys.length) * N ≤ 140737488355328) (hN : 1 ≤ N) (hB : B ≤ w.heap.size)
    (h : ∀ v' w', Own enc k e B w' v' (xs ++ ys) → w.grownBy w' v.ownBlock → At w v v' → K (a.put o.dst v') w') : if Region.wanted o (yielded ops a.tmps) = true then Oper.wp Tryz.prog o a w K Q else E := by
  have hw : Region.wanted o (yielded ops a.tmps) = true := by simp [Region.wanted, hgd]
  rw [if_pos hw]
  obtain ⟨ht, hkp, i0, z, hi, hz0, hz1, hz2, hzs⟩ := hE
  obtain ⟨p, cap, rfl, ⟨hcap, hnone⟩, hmax, hy⟩ := hu
  cases p with
  | none =>
    have hn : ys = [] := by
      cases ys with
      | nil => rfl
      | cons y r => obtain ⟨b, o, hp, _⟩ := hy (by simp); cases hp
    subst hn
    have hc := hnone rfl
    subst hc
    have hrun := run_append_owned_none (P := Tryz.prog) (w := w) B t o.type e i0 k ht hi v xs.length _ hown
    have hx' : a.eval x = .slice none 0 0 := by rw [hx]; rfl
    unfold Oper.wp
    simp [execOp, ho, resolve, invoke, builtin, hs, hx', hrun, Result.andThen]
    exact h v w (by rw [List.append_nil]; exact hown) ⟨rfl, rfl, rfl, Nat.le_refl _, fun _ _ _ => rfl⟩ (At.refl _ _)
  | some ad =>
    have hnews : ∀ (j : Nat) c, (ys.flatMap enc)[j]? = some c → w.cell? (ad.add j) = some c := by
      intro j c hj
      have hne : ys ≠ [] := by intro e; subst e; simp at hj
      obtain ⟨b, o, hp, _, hcell⟩ := hy hne
      have hp' : ad = ⟨b, o, none⟩ := Option.some.inj hp
      rw [hp', Addr.add_lit]
      exact flat_cells hk ys o hcell j c hj
    have h1' : ∀ c ∈ ys.flatMap enc, c.oneCell' = true := by
      intro c hc
      obtain ⟨y, hy', hcy⟩ := List.mem_flatMap.1 hc
      exact h1 y hy' c hcy
    have h63 : xs.length + ys.length ≤ maxLen := by
      have : (xs.length + ys.length) * 1 ≤ (xs.length + ys.length) * N := Nat.mul_le_mul_left _ hN
      unfold maxLen; omega
    have hby : (xs.length + ys.length) * i0.bytes ≤ 140737488355328 := Nat.le_trans (Nat.mul_le_mul_left _ hz2) hb
    obtain ⟨v', w', hr, h2, h3, h4⟩ := run_append_own (P := Tryz.prog) w B t o.type e i0 z k i0.bytes ht hi hz0 hz1 rfl hzs hkp v xs.length _ hown ad ys.length cap (ys.flatMap enc) (flat_length hk ys) hnews h1' h63 hby hB
    have h5 := append_at (P := Tryz.prog) w B t o.type e i0 z k i0.bytes ht hi hz0 hz1 rfl hzs hkp v xs.length _ hown ad ys.length cap (ys.flatMap enc) (flat_length hk ys) hnews h1' h63 hby hr
    unfold Oper.wp execOp
    simp only [ho, resolve, invoke, builtin, Sem.run_bind, Sem.run_pure, Result.andThen_ok, List.map_toArray, List.map_cons, List.map_nil, hs, hx, hr]
    refine h v' w' ?_ h3 h5
    show w'.ownsRow B e k v' (xs ++ ys).length ((xs ++ ys).flatMap enc)
    rw [List.length_append, List.flatMap_append]; exact h2
theorem app_P {ops : Array Oper} {rest : List Oper} {o : Oper} {a : Act} {Q : Exit → Act → World → Prop} {w : World} {α : Type} {enc : α → List Value} {k e t B N : Nat} {Qb : Nat → Prop} {xs ys : List α} {v u : Value}
    (hE : ElemN t e k N) (hk : ∀ x, (enc x).length = k) (h1 : ∀ y ∈ ys, ∀ c ∈ enc y, c.oneCell' = true) (hgd : o.guard = none) (s x : Operand) (ho : o.op = .call { callee := .builtin .append, args := #[s, x], argTypes := #[t, t] })
    (hs : a.eval s = v) (hown : Own enc k e B w v xs) (hx : a.eval x = u) (hu : SlAt Qb enc k w u ys) (hb : (xs.length + ys.length) * N ≤ 140737488355328) (hN : 1 ≤ N) (hB : B ≤ w.heap.size)
    (h : ∀ v' w', Own enc k e B w' v' (xs ++ ys) → w.grownBy w' v.ownBlock → At w v v' → wpList Tryz.prog ops Q rest (a.put o.dst v') w') : wpList Tryz.prog ops Q (o :: rest) a w := by
  refine wpList_plain hgd fun K hK => ?_
  have := step_appP (ops := ops) (K := K) (Q := Q) (E := True) hE hk h1 hgd s x ho hs hx hown hu hb hN hB (fun v' w' h2 h3 h4 => hK _ _ (h v' w' h2 h3 h4))
  have hw : Region.wanted o (yielded ops a.tmps) = true := by simp [Region.wanted, hgd]
  rw [if_pos hw] at this
  exact this
end Go.Proofs.YtlbjbkhcnafhcaaGreat.RN
