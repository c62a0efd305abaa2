/-
  What Of of package streams returns, for any dictionary.
  What Keys and Clone of package streams return, for any dictionary.
  What Clone of package streams returns, for any dictionary.
  How a run lies in memory.
  What find of package runs returns: where a moment's sample stands, or would.
  What find of package runs returns: where a moment's sample stands, or would.
-/
import Derived.Test.YtlbjbkhcnafhcaaGreatQXAdd
import Derived.Test.YtlbjbkhcnafhcaaGreatP09Txt
import Derived.Test.YtlbjbkhcnafhcaaGreatP05Take
import Derived.Deep.RegionHeld3
import Derived.Deep.CutRange
import Derived.Shelf.SlMaps.Clone
import Derived.Shelf.Abstract
import Derived.Lib.QuietBelow
namespace Go.Proofs.YtlbjbkhcnafhcaaGreat.SN
open Go.RowKit Go.Sort Go.Maps

def encI (n : Int) : List Value := [.int .i64 n]
theorem enci_len (n : Int) : (encI n).length = 1 := rfl
theorem enci_cells (n : Int) : ∀ c ∈ encI n, c.oneCell' = true := by intro c hc; simp [encI] at hc; subst hc; rfl
def IntsAt (w : World) (v : Value) (xs : List Int) : Prop := SlAt any encI 1 w v xs
theorem IntsAt.on {w w' : World} {v : Value} {xs : List Int} (h : IntsAt w v xs) (hb : Below w.heap.size w w') : IntsAt w' v xs := SlAt.on h hb
theorem int1 {w : World} {n : Int} : SlAt any encI 1 (w.alloc (.cells #[.int .i64 n] 3)) (.slice (some ⟨w.heap.size, 0, none⟩) 1 1) [n] := by
  refine ⟨_, 1, rfl, ⟨Nat.le_refl _, fun e => by cases e⟩, by simp [maxLen], fun _ => ⟨_, 0, rfl, ⟨trivial, by simp [bsz]⟩, fun j x hj i u hu => ?_⟩⟩
  have hj0 : j = 0 := by have := (List.getElem?_eq_some_iff.1 hj).1; simp at this; omega
  subst hj0
  simp at hj
  subst hj
  have hi : i = 0 := by have := (List.getElem?_eq_some_iff.1 hu).1; simp [encI] at this; omega
  subst hi
  rw [block_cell (alloc_block w _)]
  simpa [encI] using hu
theorem int1' {w : World} {n : Int} (x : Obj) : SlAt any encI 1 ((w.alloc x).alloc (.cells #[.int .i64 n] 3)) (.slice (some ⟨w.heap.size + 1, 0, none⟩) 1 1) [n] := by
  have := int1 (w := w.alloc x) (n := n)
  rwa [World.size_alloc] at this
structure HdCells (w : World) (b o : Nat) (h : Hd) : Prop where
  c0 : w.cell? ⟨b, o, none⟩ = some (.string h.nm)
  c1 : w.cell? ⟨b, o + 1, none⟩ = some h.kv
theorem hd_at {w : World} {b o : Nat} {h : Hd} (x : CellsAt w b o h.cells) : HdCells w b o h := ⟨x 0 _ rfl, x 1 _ rfl⟩
theorem bs2 {n : Nat} (h : n ≤ 1000) : n * bsz 2 ≤ 140737488355328 := by unfold bsz; simp; omega
theorem bs1 {n : Nat} (h : n ≤ 2000000) : n * bsz 1 ≤ 140737488355328 := by unfold bsz; simp; omega
/- The headers, one by one. -/
theorem dk_sl {fx : Fx} {B : Nat} {P : Nat → Prop} {w : World} {b : Nat} {most : Int} {sv : Value} {m : Nat} {l : List Sm} (h : Dk fx B P w b most sv m l) (hlen : l.length ≤ 1000) :
    ∃ p c, sv = .slice p l.length c ∧ l.length ≤ c ∧ ∀ j s, l[j]? = some s → ∃ g o kp kc, p = some ⟨g, o, none⟩ ∧ w.cell? ⟨g, o + j * 2, none⟩ = some (.string s.nm) ∧ w.cell? ⟨g, o + j * 2 + 1, none⟩ = some (.slice kp (List.length s.ks) kc) ∧ RowIn (ty36 P w) w (.slice kp (List.length s.ks) kc) s.ks := by
  obtain ⟨hs, ho, hh⟩ := h.row
  obtain ⟨p, c, hv, hc, hm, hx⟩ := Own.sl ho hd_len (bs2 (by rw [hh.1]; exact hlen))
  refine ⟨p, c, by rw [hv, hh.1], by have := hc.1; rw [hh.1] at this; exact this, fun j s hj => ?_⟩
  have hjl : j < hs.length := by rw [hh.1]; exact (List.getElem?_eq_some_iff.1 hj).1
  obtain ⟨g, o, hp, -, hcell⟩ := hx (by intro e; subst e; simp at hjl)
  obtain ⟨hnm, hrow⟩ := hh.2 j _ _ (List.getElem?_eq_getElem hjl) hj
  obtain ⟨c0, c1⟩ := hd_at (hcell j _ (List.getElem?_eq_getElem hjl))
  obtain ⟨kp, kc, hk, hr⟩ := hrow
  rw [hnm] at c0
  rw [hk] at c1
  exact ⟨g, o, kp, kc, hp, c0, c1, kp, kc, rfl, hr⟩
theorem ofL_take {nm : ByteArray} {l : List Sm} {k : Nat} {s : Sm} (h : l[k]? = some s) : ofL nm 0 (l.take (k + 1)) = ofL nm 0 (l.take k) ++ (if s.nm = nm then [(k : Int)] else []) := by
  have hk := (List.getElem?_eq_some_iff.1 h).1
  rw [List.take_add_one, h]
  show ofL nm 0 (l.take k ++ [s]) = _
  rw [ofL_snoc]
  have e : 0 + (l.take k).length = k := by rw [List.length_take]; omega
  rw [e]
set_option maxRecDepth 100000 in
set_option maxHeartbeats 1000000 in
theorem of_any {fx : Fx} {B : Nat} {P : Nat → Prop} {w : World} {b : Nat} {most : Int} {sv : Value} {m : Nat} {l : List Sm} {nm : ByteArray} (h : Dk fx B P w b most sv m l) (hlen : l.length ≤ 1000) :
    Calls Tryz.prog 34 #[dp b, .string nm] w fun e w' => ∃ p c, e = .returned (.slice p (ofL nm 0 l).length c) ∧ IntsAt w' (.slice p (ofL nm 0 l).length c) (ofL nm 0 l) ∧ Below w.heap.size w w' := by
  have k0 := block_cell h.blk
  obtain ⟨p, c, rfl, hcap, hx⟩ := dk_sl h hlen
  have HX := hid hx
  clear hx h
  generalize hn : l.length = n at *
  have HN := hid hn
  clear hn
  go_enter Tryz.func34, Tryz.ntmps34
  go_wp2
  clear k0
  go_loopw [5, 13] (fun v i wr => ∃ k : Nat, k ≤ n ∧ i = .int .i64 k ∧ Hid (Own encI 1 3 w.heap.size wr v (ofL nm 0 (l.take k))) ∧ Hid (Below w.heap.size w wr)) (fun _ i _ => n - (intOf i).toNat)
  case atStart => exact ⟨0, by omega, rfl, Own.nil _ _ _ _ _, Below.refl _ _⟩
  case round =>
    obtain ⟨k, hk, rfl, HO, HB⟩ := hrel
    by_cases hlt : k < n
    · have hk' : k < l.length := by rw [HN.out]; exact hlt
      obtain ⟨s, hs⟩ : ∃ s, l[k]? = some s := ⟨l[k], List.getElem?_eq_getElem hk'⟩
      obtain ⟨g, o, kp, kc, rfl, c0, c1, -⟩ := HX.out k s hs
      have d0 := cell_onB c0 HB.out
      have d1 := cell_onB c1 HB.out
      clear c0 c1
      have HT := hid (ofL_take (nm := nm) hs)
      clear hs
      have HLn := hid (Nat.le_trans (ofL_len nm 0 (l.take k)) (List.length_take_le k l))
      by_cases he : s.nm = nm
      · rw [if_pos he] at HT
        rw [he] at d0
        clear he
        go_wp2_with (at_builtin; refine app_any elem3 enci_len (fun x _ => enci_cells x) rfl _ _ rfl rfl (own_kp (T := fun _ => False) HO.out (Kp.of (((Below.refl _ _).alloc (Nat.le_refl _) _).alloc (by simp) _)) (fun _ _ => id)) rfl (int1' _) (bs1 (by have := HLn.out; have := HN.out; simp; omega)) (by have := HB.out.size; simp; omega) ?_; intro v' w1 hown hb1)
        go_roundw
        case rel => exact ⟨k + 1, by omega, by go_num, by rw [HT.out]; exact hown, HB.out.trans ((((Below.refl _ _).alloc HB.out.size _).alloc (by have := HB.out.size; simp; omega) _).trans hb1)⟩
        case measure => simp [intOf]; omega
      · rw [if_neg he, List.append_nil] at HT
        have hne : (s.nm.toList == nm.toList) = false := by rw [bytes_beq]; simpa using he
        clear he
        go_wp2
        go_roundw
        case rel => exact ⟨k + 1, by omega, by go_num, by rw [HT.out]; exact own_kp (T := fun _ => False) HO.out (Kp.of ((Below.refl _ _).alloc (Nat.le_refl _) _)) (fun _ _ => id), HB.out.alloc HB.out.size _⟩
        case measure => simp [intOf]; omega
    · have hks : k = n := by omega
      subst hks
      have hta : l.take k = l := List.take_of_length_le (by rw [HN.out]; exact Nat.le_refl _)
      rw [hta] at HO
      have HLn := hid (ofL_len nm 0 l)
      go_wp2
      go_ret
      obtain ⟨p3, c3, rfl⟩ := own_formN HO.out rfl
      exact ⟨p3, c3, rfl, (Own.sl HO.out enci_len (bs1 (by have := HLn.out; have := HN.out; omega))).imp (fun _ _ => trivial), HB.out⟩
end Go.Proofs.YtlbjbkhcnafhcaaGreat.SN
namespace Go.Proofs.YtlbjbkhcnafhcaaGreat.SN
open Go.RowKit Go.Sort Go.Maps Go.Shelf

def inB (l : List Sm) (i : Int) : Bool := decide (0 ≤ i ∧ i < (l.length : Int))
def keyS (l : List Sm) (i : Int) : Sm := if inB l i then l[i.toNat]! else ⟨⟨#[]⟩, []⟩
theorem keyS_out {l : List Sm} {i : Int} (h : inB l i = false) : keyS l i = ⟨⟨#[]⟩, []⟩ := by unfold keyS; rw [h]; rfl
theorem keyS_in {l : List Sm} {k : Nat} {s : Sm} (h : l[k]? = some s) : keyS l (k : Int) = s ∧ inB l (k : Int) = true := by
  have hk := (List.getElem?_eq_some_iff.1 h).1
  have hb : inB l (k : Int) = true := by simp [inB]; exact hk
  refine ⟨?_, hb⟩
  unfold keyS
  rw [hb, if_pos rfl, Int.toNat_natCast, getElem!_pos l k hk]
  rw [List.getElem?_eq_getElem hk] at h
  exact Option.some.inj h
abbrev K3 (b g o : Nat) (sv : Value) (nm : ByteArray) (kv : Value) (w : World) : Prop := w.cell? ⟨b, 4, none⟩ = some sv ∧ w.cell? ⟨g, o, none⟩ = some (.string nm) ∧ w.cell? ⟨g, o + 1, none⟩ = some kv
theorem k3D {b g o : Nat} {sv : Value} {nm : ByteArray} {kv : Value} {w : World} (h : K3 b g o sv nm kv w) : K3 b g o sv nm kv w.drew := h
theorem k3On {b g o : Nat} {sv : Value} {nm : ByteArray} {kv : Value} {w w' : World} (h : K3 b g o sv nm kv w) (hb : Below w.heap.size w w') : K3 b g o sv nm kv w' := ⟨cell_onB h.1 hb, cell_onB h.2.1 hb, cell_onB h.2.2 hb⟩
set_option maxRecDepth 100000 in
set_option maxHeartbeats 1000000 in
theorem keys_out {fx : Fx} {w : World} {b : Nat} {most : Int} {m : Nat} {n : Nat} {p : Option Addr} {c : Nat} {i : Int} (hb : w.heap[b]? = some (.cells #[fx.sc, fx.rm, fx.pt, .int .i64 most, .slice p n c, .map (some m), fx.sm] 72)) (hi : i < 0 ∨ (n : Int) ≤ i) :
    Calls Tryz.prog 60 #[dp b, .int .i64 i] w fun e w' => e = .returned (.tuple #[.string ⟨#[]⟩, .slice none 0 0, .bool false]) ∧ w' = w := by
  have k0 := block_cell hb
  by_cases h0 : i < 0
  · go_enter Tryz.func60, Tryz.ntmps60
    go_wp2
    exact bodyPost_ret (v := .tuple #[.string ⟨#[]⟩, .slice none 0 0, .bool false]) (by simp [results, Tryz.results60, go_sem]) rfl ⟨rfl, rfl⟩
  · have h1 : (n : Int) ≤ i := by omega
    clear hi
    go_enter Tryz.func60, Tryz.ntmps60
    go_wp2
    exact bodyPost_ret (v := .tuple #[.string ⟨#[]⟩, .slice none 0 0, .bool false]) (by simp [results, Tryz.results60, go_sem]) rfl ⟨rfl, rfl⟩
set_option maxRecDepth 100000 in
set_option maxHeartbeats 1000000 in
theorem keys_in {fx : Fx} {B : Nat} {P : Nat → Prop} {w : World} {b : Nat} {most : Int} {sv : Value} {m : Nat} {l : List Sm} {k : Nat} {s : Sm} (h : Dk fx B P w b most sv m l) (hlen : l.length ≤ 1000) (hs : l[k]? = some s) :
    Calls Tryz.prog 60 #[dp b, .int .i64 (k : Int)] w fun e w' => ∃ p c, e = .returned (.tuple #[.string s.nm, .slice p (List.length s.ks) c, .bool true]) ∧ RowAt w' (.slice p (List.length s.ks) c) s.ks ∧ Below w.heap.size w w' := by
  have k0 := block_cell h.blk
  obtain ⟨p, c, rfl, hcap, hx⟩ := dk_sl h hlen
  obtain ⟨g, o, kp, kc, rfl, c0, c1, hr⟩ := hx k s hs
  have hk : k < l.length := (List.getElem?_eq_some_iff.1 hs).1
  have HR := hid hr.at
  have hS0 : K3 b g (o + k * 2) (.slice (some ⟨g, o, none⟩) l.length c) s.nm (.slice kp (List.length s.ks) kc) w := ⟨k0 4, c0, c1⟩
  have HS := hid hS0
  clear hx hs hr c0 c1 h
  generalize l.length = n at *
  generalize hns : List.length s.ks = ns at *
  have HNS := hid hns
  clear hns
  have g1 : ¬ (n : Int) ≤ (k : Int) := by omega
  go_enter Tryz.func60, Tryz.ntmps60
  go_wp2_with fail
  clear k0
  go_region_held3 (K3 b g (o + k * 2) (.slice (some ⟨g, o, none⟩) n c) s.nm (.slice kp ns kc)) (((repeat (first | (with_reducible refine k3D ?_))); (with_reducible assumption)))
    (first
    | (refine step_callC (v := .slice kp ns kc) rfl (.tmp 33) 32 rfl (by simp [Act.eval]) enters39 ?_; refine (cloneK_any (P := any) (HR.out.on (Below.refl _ _).drew) (fun _ _ => trivial)).mono ?_; rintro e w2 ⟨p2, c2, rfl, hr2, hb2⟩; rw [HNS.out] at hr2 ⊢; refine ⟨_, rfl, ?_⟩; have HR2 := hid hr2; have HB2 : Hid (Below w.heap.size w w2) := (Below.refl w.heap.size w).drew.trans hb2; have hS2 := k3On HS.out HB2.out; clear hr2 hb2 hS0))
  go_wp2_with fail
  exact bodyPost_ret (v := .tuple #[.string s.nm, .slice p2 ns c2, .bool true]) (by simp [results, Tryz.results60, go_sem]) rfl ⟨p2, c2, rfl, HR2.out.at, HB2.out⟩
theorem keys_any {fx : Fx} {B : Nat} {P : Nat → Prop} {w : World} {b : Nat} {most : Int} {sv : Value} {m : Nat} {l : List Sm} {i : Int} (h : Dk fx B P w b most sv m l) (hlen : l.length ≤ 1000) :
    Calls Tryz.prog 60 #[dp b, .int .i64 i] w fun e w' => ∃ p c, e = .returned (.tuple #[.string (keyS l i).nm, .slice p (List.length (keyS l i).ks) c, .bool (inB l i)]) ∧ RowAt w' (.slice p (List.length (keyS l i).ks) c) (keyS l i).ks ∧ Below w.heap.size w w' := by
  cases hi : inB l i with
  | false =>
    rw [keyS_out hi]
    obtain ⟨p, c, rfl, -⟩ := dk_sl h hlen
    refine (keys_out h.blk (by simp [inB] at hi; omega)).mono ?_
    rintro e w' ⟨rfl, rfl⟩
    exact ⟨none, 0, rfl, SlAt.nil _ _ _ _, Below.refl _ _⟩
  | true =>
    obtain ⟨h0, h1⟩ : 0 ≤ i ∧ i < (l.length : Int) := by simpa [inB] using hi
    obtain ⟨k, rfl⟩ : ∃ k : Nat, i = (k : Int) := ⟨i.toNat, by omega⟩
    have hk : k < l.length := by omega
    have hs := List.getElem?_eq_getElem hk
    rw [(keyS_in hs).1]
    exact keys_in h hlen hs
end Go.Proofs.YtlbjbkhcnafhcaaGreat.SN
namespace Go.Proofs.YtlbjbkhcnafhcaaGreat.SN
open Go.RowKit Go.Sort Go.Maps Go.Shelf

set_option maxRecDepth 100000 in
set_option maxHeartbeats 2000000 in
theorem mapClone (b : Nat) (es : Array MapEntry) (clock : Nat) (w : World) (hb : w.heap[b]? = some (.map es clock)) :
    Calls Tryz.prog 48 #[.map (some b)] w fun e w' => e = .returned (.map (some w.heap.size)) ∧ w' = w.alloc (.map es clock) := by
  have hq := fun w => run_eql_map_nil_sl (P := Tryz.prog) w 65 _ _ (some b) Tryz.underlying65
  go_enter Tryz.func48, Tryz.ntmps48
  go_wp2
  rw [run_callFunc_extern Tryz.func74 (by kernel_rfl) (by kernel_rfl) (by kernel_rfl) (e := Extern.MapsClone.clone) (by kernel_rfl), run_maps_clone_sl w 65 hb]
  simp only [Result.andThen]
  rw [Oper.upon_value]
  go_wp2
  rw [run_typeAssert_map_sl _ 65 20 _ _ _ Tryz.underlying65]
  simp only [Result.andThen]
  rw [Oper.upon_value]
  go_wp2
  go_ret
  exact ⟨rfl, rfl⟩
theorem mapClone_any {m n : Nat} {D : D1} {w : World} (h : w.ownsMap Tryz.prog 9 (plainElem Tryz.prog 3) m n D) :
    Calls Tryz.prog 48 #[.map (some m)] w fun e w' => e = .returned (.map (some w.heap.size)) ∧ w'.ownsMap Tryz.prog 9 (plainElem Tryz.prog 3) w.heap.size n D ∧ Below w.heap.size w w' := by
  obtain ⟨es, clock, hb, F, hs, hD⟩ := h
  refine (mapClone m es clock w hb).mono fun e w' ⟨he, hw⟩ => ?_
  subst hw
  exact ⟨he, ⟨es, clock, alloc_block w _, F, hs, hD⟩, (Below.refl _ w).alloc (Nat.le_refl _) _⟩
set_option maxRecDepth 100000 in
set_option maxHeartbeats 400000 in
theorem cloneS_any {B : Nat} {sv : Value} {hs : List Hd} {w : World} (ho : Own Hd.cells 2 97 B w sv hs) (hk : ∀ h ∈ hs, h.kv.oneCell' = true) (hl : hs.length ≤ 1000) :
    Calls Tryz.prog 47 #[sv] w fun e w' => ∃ p c, e = .returned (.slice p hs.length c) ∧ Own Hd.cells 2 97 w.heap.size w' (.slice p hs.length c) hs ∧ Below w.heap.size w w' := by
  have q22 : ∀ (w : World) (a : Option Addr) (n c n' c' : Nat), (binOp .eql 64 (.slice a n c) (.slice none n' c')).run Tryz.prog w = .ok (.bool a.isNone) w := fun w a n c n' c' => Lib.run_eql_slice_nil w _ _ a n c n' c' Tryz.underlying64
  have HK := hid hk
  have HL := hid hl
  have HS := hid (Own.sl ho hd_len (bs2 hl))
  obtain ⟨p, cap, rfl⟩ := own_formN ho rfl
  clear ho hk hl
  generalize hn : hs.length = n at *
  have HN := hid hn
  clear hn
  cases p with
  | none =>
    have hn := SlAt.empty HS.out
    subst hn
    obtain rfl : n = 0 := HN.out.symm
    go_enter Tryz.func47, Tryz.ntmps47
    go_wp2
    go_ret
    exact ⟨none, 0, rfl, Own.nil _ _ _ _ _, Below.refl _ _⟩
  | some ad =>
    go_enter Tryz.func47, Tryz.ntmps47
    go_wp2_with (at_builtin; refine app_N (N := 40) elem83 hd_len (fun x hx => hd_cells (HK.out x hx)) rfl _ _ rfl rfl (Own.made Hd.cells 2 97 w.heap.size w (Nat.le_refl _)) rfl (SlAt.on HS.out ((Below.refl _ _).alloc (Nat.le_refl _) _)) (by have := HL.out; simp only [List.length_nil]; rw [HN.out]; omega) (by decide) (by simp) ?_; intro v' w1 hown hg1)
    go_ret
    rw [List.nil_append] at hown
    obtain ⟨p, c, rfl⟩ := own_formN hown HN.out
    refine ⟨p, c, rfl, hown, ?_⟩
    exact ((Below.refl _ _).alloc (Nat.le_refl _) _).trans ((Below.refl _ _).grown hg1 (by simp) (fun k e => by cases e; exact Nat.le_refl _))
abbrev C3 (b : Nat) (x y z : Value) (w : World) : Prop := w.cell? ⟨b, 3, none⟩ = some x ∧ w.cell? ⟨b, 4, none⟩ = some y ∧ w.cell? ⟨b, 5, none⟩ = some z
theorem c3D {b : Nat} {x y z : Value} {w : World} (h : C3 b x y z w) : C3 b x y z w.drew := h
theorem c3A {b : Nat} {x y z : Value} {w : World} (h : C3 b x y z w) (o : Obj) : C3 b x y z (w.alloc o) := ⟨Lib.cell?_alloc_some _ h.1, Lib.cell?_alloc_some _ h.2.1, Lib.cell?_alloc_some _ h.2.2⟩
theorem c3On {b : Nat} {x y z : Value} {w w' : World} (h : C3 b x y z w) (hb : Below w.heap.size w w') : C3 b x y z w' := ⟨cell_onB h.1 hb, cell_onB h.2.1 hb, cell_onB h.2.2 hb⟩
theorem enters36 : ∀ args w, (callFunc 47 args).run Tryz.prog w = .ok (.enter 47 args) w := enters_of Tryz.func47 (by kernel_rfl) rfl
theorem enters37 : ∀ args w, (callFunc 48 args).run Tryz.prog w = .ok (.enter 48 args) w := enters_of Tryz.func48 (by kernel_rfl) rfl
theorem heads_one {P : Nat → Prop} {w : World} {hs : List Hd} {l : List Sm} (h : HeadsD P w hs l) : ∀ x ∈ hs, x.kv.oneCell' = true := by
  intro x hx
  obtain ⟨j, hj, rfl⟩ := List.getElem_of_mem hx
  have hjl : j < l.length := by rw [← h.1]; exact hj
  obtain ⟨-, p, c, hv, -⟩ := h.2 j _ _ (List.getElem?_eq_getElem hj) (List.getElem?_eq_getElem hjl)
  rw [hv]; rfl
set_option maxRecDepth 100000 in
set_option maxHeartbeats 1000000 in
theorem clone_any {fx : Fx} {B : Nat} {P : Nat → Prop} {w : World} {b : Nat} {most : Int} {sv : Value} {m : Nat} {l : List Sm} (h : Dk fx B P w b most sv m l) (hlen : l.length ≤ 1000) :
    Calls Tryz.prog 24 #[dp b] w fun e w' => ∃ b' sv' m', e = .returned (.pointer (some ⟨b', 0, none⟩)) ∧ w'.heap[b']? = some (.cells #[.int .i64 most, sv', .map (some m')] 67) ∧ Dn w.heap.size P w' sv' m' l ∧ Below w.heap.size w w' := by
  have k0 := block_cell h.blk
  obtain ⟨hs, ho, hh⟩ := h.row
  obtain ⟨D, hD, hA⟩ := h.map
  obtain ⟨p, c, rfl⟩ := own_formN ho hh.1
  have HO := hid ho
  have HH := hid hh
  have HD := hid hD
  have HA := hid hA
  have HDc := hid h.dc
  have hhl := hh.1
  have HL : Hid (hs.length ≤ 1000) := by show _ ≤ _; rw [hhl]; exact hlen
  have HHL := hid hhl
  have hS0 : C3 b (.int .i64 most) (.slice p l.length c) (.map (some m)) w := ⟨k0 3, k0 4, k0 5⟩
  have HS := hid hS0
  have M1 : Hid True := trivial
  clear h ho hh hD hA k0 hlen hhl
  generalize hn : l.length = n at *
  have HN := hid hn
  clear hn
  go_enter Tryz.func24, Tryz.ntmps24
  go_wp2_with fail
  go_region_held3 (C3 b (.int .i64 most) (.slice p n c) (.map (some m))) (((repeat (first | (with_reducible refine c3D ?_) | (with_reducible refine c3A ?_ _))); (with_reducible assumption)))
    (first
    | (have FIRST := M1; refine step_callC (v := .slice p n c) rfl (.tmp 10) 64 rfl (by simp [Act.eval]) enters36 ?_; refine (cloneS_any (own_kp (T := fun _ => False) HO.out (Kp.of (Below.refl _ _).drew) (fun _ _ => id)) (heads_one HH.out) HL.out).mono ?_; rintro e w2 ⟨p2, c2, rfl, ho2, hb2⟩; rw [HHL.out] at ho2 ⊢; refine ⟨_, rfl, ?_⟩; have HO2 : Hid (Own Hd.cells 2 97 w.heap.size w2 (.slice p2 n c2) hs) := ho2; have HB2 : Hid (Below w.heap.size w w2) := (Below.refl w.heap.size w).drew.trans hb2; have hS2 := c3On HS.out HB2.out; have M2 : Hid True := trivial; clear ho2 hb2 hS0 FIRST M1)
    | (have FIRST := M2; refine step_callC (v := .map (some m)) rfl (.tmp 15) 65 rfl (by simp [Act.eval]) enters37 ?_; refine (mapClone_any (map_kp (T := fun _ => False) HD.out (Kp.of HB2.out) id)).mono ?_; rintro e w3 ⟨rfl, hm3, hb3⟩; refine ⟨_, rfl, ?_⟩; have HM3 := hid hm3; have HB3 := hid hb3; have hS3 := c3On hS2 hb3; clear hm3 hb3 FIRST M2))
  go_wp2_with fail
  go_ret
  have hb3 : Below w.heap.size w w3 := HB2.out.trans (HB3.out.mono HB2.out.size)
  have hb4 := hb3.alloc hb3.size (.cells #[.int .i64 most, .slice p2 n c2, .map (some w2.heap.size)] 67)
  have hb24 : Below w2.heap.size w2 (w3.alloc (.cells #[.int .i64 most, .slice p2 n c2, .map (some w2.heap.size)] 67)) := HB3.out.alloc HB3.out.size _
  refine ⟨w3.heap.size, .slice p2 n c2, w2.heap.size, rfl, alloc_block _ _, ⟨HB2.out.size, ⟨hs, own_kp (T := fun _ => False) HO2.out (Kp.of hb24) (fun _ _ => id), HH.out.kp (T := fun _ => False) (Kp.of hb4) (fun _ _ => id)⟩, ⟨D, by rw [HN.out]; exact map_kp (T := fun _ => False) HM3.out (Kp.of ((Below.refl _ _).alloc (Nat.le_refl _) _)) id, HA.out⟩, HDc.out⟩, hb4⟩
end Go.Proofs.YtlbjbkhcnafhcaaGreat.SN
namespace Go.Proofs.YtlbjbkhcnafhcaaGreat.RN
open Go.RowKit Go.Sort

theorem hid {p : Prop} (h : p) : Hid p := h
theorem set_block {w : World} {b i : Nat} {cs : Array Value} {t : TypeId} {fz : Nat × Nat} (h : w.heap[b]? = some (.cells cs t fz)) (u : Value) : (w.setCell ⟨b, i, none⟩ u).heap[b]? = some (.cells (cs.setIfInBounds i u) t fz) := by
  simp [World.setCell, Array.getElem?_modify, h]
theorem block_frozen {w : World} {b : Nat} {xs : Array Value} {t : TypeId} (h : w.heap[b]? = some (.cells xs t)) (o : Nat) : w.frozen? ⟨b, o, none⟩ = false := by
  simp [World.frozen?, h]
theorem cell_onB {w w' : World} {a : Addr} {v : Value} (h : w.cell? a = some v) (hb : Below w.heap.size w w') : w'.cell? a = some v :=
  (hb.cell (block_lt_of_cell h)).trans h
theorem below_drewN {B : Nat} {a w : World} (h : Below B a w) (n : Nat) : Below B a (w.drewN n) := h.trans ⟨rfl, rfl, rfl, Nat.le_refl _, fun _ _ => rfl⟩
abbrev dp (b : Nat) : Value := .pointer (some ⟨b, 0, none⟩)
/- A sample in memory: its moment, and the slice of its values. -/
structure Sh where
  t : Int
  kv : Value
instance : Inhabited Sh := ⟨⟨0, .slice none 0 0⟩⟩
def Sh.cells (h : Sh) : List Value := [.int .i64 h.t, h.kv]
theorem sh_len (h : Sh) : h.cells.length = 2 := rfl
theorem sh_cells {h : Sh} (hk : h.kv.oneCell' = true) : ∀ c ∈ h.cells, c.oneCell' = true := by
  intro c hc; simp [Sh.cells] at hc; rcases hc with rfl | rfl
  · rfl
  · exact hk
structure ShCells (w : World) (b o : Nat) (h : Sh) : Prop where
  c0 : w.cell? ⟨b, o, none⟩ = some (.int .i64 h.t)
  c1 : w.cell? ⟨b, o + 1, none⟩ = some h.kv
theorem sh_at {w : World} {b o : Nat} {h : Sh} (x : CellsAt w b o h.cells) : ShCells w b o h := ⟨x 0 _ rfl, x 1 _ rfl⟩
def HeadsS (P : Nat → Prop) (w : World) (hs : List Sh) (l : List Sp) : Prop := hs.length = l.length ∧ ∀ (j : Nat) h s, hs[j]? = some h → l[j]? = some s → h.t = s.t ∧ RowIn (ty36 P w) w h.kv s.vs
theorem HeadsS.kp {P T : Nat → Prop} {w w' : World} {hs : List Sh} {l : List Sp} (h : HeadsS P w hs l) (hk : Kp T w w') (ht : ∀ k, ty36 P w k → ¬ T k) : HeadsS P w' hs l :=
  ⟨h.1, fun j x s h1 h2 => ⟨(h.2 j x s h1 h2).1, row_kp (h.2 j x s h1 h2).2 hk ht⟩⟩
theorem HeadsS.on {P : Nat → Prop} {w w' : World} {hs : List Sh} {l : List Sp} (h : HeadsS P w hs l) (hb : Below w.heap.size w w') : HeadsS P w' hs l := h.kp (T := fun _ => False) (Kp.of hb) (fun _ _ => id)
theorem HeadsS.P {P P' : Nat → Prop} {w : World} {hs : List Sh} {l : List Sp} (h : HeadsS P w hs l) (hp : ∀ k, k < w.heap.size → P k → P' k) : HeadsS P' w hs l :=
  ⟨h.1, fun j x s h1 h2 => ⟨(h.2 j x s h1 h2).1, row_P (h.2 j x s h1 h2).2 hp⟩⟩
theorem HeadsS.nil (P : Nat → Prop) (w : World) : HeadsS P w [] [] := ⟨rfl, fun j x s h1 _ => by simp at h1⟩
theorem HeadsS.one {P : Nat → Prop} {w : World} {h : Sh} {s : Sp} (ht : h.t = s.t) (hr : RowIn (ty36 P w) w h.kv s.vs) : HeadsS P w [h] [s] := by
  refine ⟨rfl, fun j x q h1 h2 => ?_⟩
  cases j with
  | zero => simp at h1 h2; subst h1 h2; exact ⟨ht, hr⟩
  | succ j => simp at h1
theorem HeadsS.app {P : Nat → Prop} {w : World} {hs hs' : List Sh} {l l' : List Sp} (h : HeadsS P w hs l) (h' : HeadsS P w hs' l') : HeadsS P w (hs ++ hs') (l ++ l') := by
  refine ⟨by simp [h.1, h'.1], fun j x q h1 h2 => ?_⟩
  by_cases hlt : j < hs.length
  · rw [List.getElem?_append_left hlt] at h1
    rw [List.getElem?_append_left (by rw [← h.1]; exact hlt)] at h2
    exact h.2 j x q h1 h2
  · rw [List.getElem?_append_right (by omega)] at h1
    rw [List.getElem?_append_right (by rw [← h.1]; omega), ← h.1] at h2
    exact h'.2 _ x q h1 h2
theorem HeadsS.take {P : Nat → Prop} {w : World} {hs : List Sh} {l : List Sp} (h : HeadsS P w hs l) (k : Nat) : HeadsS P w (hs.take k) (l.take k) := by
  refine ⟨by simp [h.1], fun j x q h1 h2 => ?_⟩
  rw [List.getElem?_take] at h1 h2
  split at h1
  · rw [if_pos ‹_›] at h2; exact h.2 j x q h1 h2
  · cases h1
theorem HeadsS.drop {P : Nat → Prop} {w : World} {hs : List Sh} {l : List Sp} (h : HeadsS P w hs l) (k : Nat) : HeadsS P w (hs.drop k) (l.drop k) := by
  refine ⟨by simp [h.1], fun j x q h1 h2 => ?_⟩
  rw [List.getElem?_drop] at h1 h2
  exact h.2 _ x q h1 h2
theorem heads_one {P : Nat → Prop} {w : World} {hs : List Sh} {l : List Sp} (h : HeadsS P w hs l) : ∀ x ∈ hs, x.kv.oneCell' = true := by
  intro x hx
  obtain ⟨j, hj, rfl⟩ := List.getElem_of_mem hx
  have hjl : j < l.length := by rw [← h.1]; exact hj
  obtain ⟨-, p, c, hv, -⟩ := h.2 j _ _ (List.getElem?_eq_getElem hj) (List.getElem?_eq_getElem hjl)
  rw [hv]; rfl
theorem info32 : (Tryz.prog.info? 105).map (fun i => (i.zero, i.size, i.bytes)) = some (some (.agg #[.int .i64 0, .slice none 0 0]), 2, 32) := by kernel_rfl
theorem info22 : (Tryz.prog.info? 102).map (fun i => (i.zero, i.size, i.bytes)) = some (some (.slice none 0 0), 1, 24) := by kernel_rfl
theorem elem32 : ElemN 102 105 2 32 := by
  obtain ⟨i, hi, h0, h1, h2⟩ := info_parts info32
  exact ⟨Tryz.underlying102, by omega, i, _, hi, h0, h1, Nat.le_of_eq h2, rfl⟩
theorem elem22 : ElemN 99 102 1 24 := by
  obtain ⟨i, hi, h0, h1, h2⟩ := info_parts info22
  exact ⟨Tryz.underlying99, by omega, i, _, hi, h0, h1, Nat.le_of_eq h2, rfl⟩
theorem bs2 {n : Nat} (h : n ≤ 1000) : n * bsz 2 ≤ 140737488355328 := by unfold bsz; simp; omega
theorem small32 {n m : Nat} (h : n ≤ 1000) (h' : m ≤ 1000) : (n + m) * 32 ≤ 140737488355328 := by omega
/- A run in memory: its block, its slice of pieces, and the one piece. -/
structure Rk (B : Nat) (P : Nat → Prop) (w : World) (b : Nat) (sv pv : Value) (l : List Sp) : Prop where
  bB : B ≤ b
  blk : w.heap[b]? = some (.cells #[sv] 101)
  up : Up l
  pc : (l = [] ∧ sv = .slice none 0 0 ∧ pv = .slice none 0 0) ∨ (l ≠ [] ∧ ∃ g c arr, sv = .slice (some ⟨g, 0, none⟩) 1 c ∧ 1 ≤ c ∧ B ≤ g ∧ w.heap[g]? = some (.cells arr 102) ∧ arr[0]? = some pv)
  row : ∃ hs, Own Sh.cells 2 105 B w pv hs ∧ HeadsS P w hs l
def Tr (b : Nat) (sv pv : Value) (k : Nat) : Prop := k = b ∨ sv.ownBlock = some k ∨ pv.ownBlock = some k
theorem Rk.kp {B : Nat} {P T : Nat → Prop} {w w' : World} {b : Nat} {sv pv : Value} {l : List Sp} (h : Rk B P w b sv pv l) (hk : Kp T w w') (hb : ∀ k, Tr b sv pv k → ¬ T k) (ht : ∀ k, ty36 P w k → ¬ T k) : Rk B P w' b sv pv l := by
  obtain ⟨hs, ho, hh⟩ := h.row
  refine ⟨h.bB, hk.blk h.blk (hb b (.inl rfl)), h.up, ?_, ⟨hs, own_kp ho hk (fun g hg => hb g (.inr (.inr hg))), hh.kp hk ht⟩⟩
  rcases h.pc with h0 | ⟨hn, g, c, arr, rfl, h1, h2, h3, h4⟩
  · exact .inl h0
  · exact .inr ⟨hn, g, c, arr, rfl, h1, h2, hk.blk h3 (hb g (.inr (.inl rfl))), h4⟩
theorem Rk.on {B : Nat} {P : Nat → Prop} {w w' : World} {b : Nat} {sv pv : Value} {l : List Sp} (h : Rk B P w b sv pv l) (hb : Below w.heap.size w w') : Rk B P w' b sv pv l :=
  h.kp (T := fun _ => False) (Kp.of hb) (fun _ _ => id) (fun _ _ => id)
theorem Rk.P {B : Nat} {P P' : Nat → Prop} {w : World} {b : Nat} {sv pv : Value} {l : List Sp} (h : Rk B P w b sv pv l) (hp : ∀ k, k < w.heap.size → P k → P' k) : Rk B P' w b sv pv l := by
  obtain ⟨hs, ho, hh⟩ := h.row
  exact ⟨h.bB, h.blk, h.up, h.pc, ⟨hs, ho, hh.P hp⟩⟩
theorem Rk.le {B B' : Nat} {P : Nat → Prop} {w : World} {b : Nat} {sv pv : Value} {l : List Sp} (h : Rk B P w b sv pv l) (hb : B' ≤ B) : Rk B' P w b sv pv l := by
  obtain ⟨hs, ho, hh⟩ := h.row
  refine ⟨Nat.le_trans hb h.bB, h.blk, h.up, ?_, ⟨hs, own_le ho hb, hh⟩⟩
  rcases h.pc with h0 | ⟨hn, g, c, arr, h0, h1, h2, h3, h4⟩
  · exact .inl h0
  · exact .inr ⟨hn, g, c, arr, h0, h1, Nat.le_trans hb h2, h3, h4⟩
theorem Rk.T_ge {B : Nat} {P : Nat → Prop} {w : World} {b : Nat} {sv pv : Value} {l : List Sp} (h : Rk B P w b sv pv l) : ∀ k, Tr b sv pv k → B ≤ k := by
  obtain ⟨hs, ho, hh⟩ := h.row
  rintro k (rfl | hk | hk)
  · exact h.bB
  · rcases h.pc with ⟨-, rfl, -⟩ | ⟨hn, g, c, arr, rfl, h1, h2, h3, h4⟩
    · cases hk
    · cases hk; exact h2
  · exact (own_at ho hk).1
theorem Rk.T_kind {B : Nat} {P : Nat → Prop} {w : World} {b : Nat} {sv pv : Value} {l : List Sp} (h : Rk B P w b sv pv l) : ∀ k, Tr b sv pv k → ∃ cs t fz, w.heap[k]? = some (.cells cs t fz) ∧ (t = 101 ∨ t = 102 ∨ t = 105) := by
  obtain ⟨hs, ho, hh⟩ := h.row
  rintro k (rfl | hk | hk)
  · exact ⟨_, _, _, h.blk, .inl rfl⟩
  · rcases h.pc with ⟨-, rfl, -⟩ | ⟨hn, g, c, arr, rfl, h1, h2, h3, h4⟩
    · cases hk
    · cases hk; exact ⟨_, _, _, h3, .inr (.inl rfl)⟩
  · obtain ⟨c, f, hc⟩ := own_kind ho hk
    exact ⟨_, _, _, hc, .inr (.inr rfl)⟩
theorem Rk.T_lt {B : Nat} {P : Nat → Prop} {w : World} {b : Nat} {sv pv : Value} {l : List Sp} (h : Rk B P w b sv pv l) : ∀ k, Tr b sv pv k → k < w.heap.size := fun k hk => by
  obtain ⟨_, _, _, hc, _⟩ := h.T_kind k hk
  exact lt_of_block hc
theorem Rk.T_not {B : Nat} {P : Nat → Prop} {w : World} {b : Nat} {sv pv : Value} {l : List Sp} (h : Rk B P w b sv pv l) {k : Nat} {cs : Array Value} {t : TypeId} {fz : Nat × Nat} (hk : w.heap[k]? = some (.cells cs t fz)) (h1 : t ≠ 101) (h2 : t ≠ 102) (h3 : t ≠ 105) : ¬ Tr b sv pv k := by
  intro hT
  obtain ⟨cs', t', fz', hc, ht⟩ := h.T_kind k hT
  rw [hc] at hk; cases hk
  rcases ht with e | e | e
  · exact h1 e
  · exact h2 e
  · exact h3 e
theorem Rk.ty_not {B : Nat} {P P' : Nat → Prop} {w : World} {b : Nat} {sv pv : Value} {l : List Sp} (h : Rk B P w b sv pv l) {k : Nat} (hk : ty36 P' w k) : ¬ Tr b sv pv k := by
  obtain ⟨-, c, fz, hc⟩ := hk
  exact h.T_not hc (by decide) (by decide) (by decide)
theorem Rk.ne {B : Nat} {P : Nat → Prop} {w : World} {b : Nat} {sv pv : Value} {l : List Sp} (h : Rk B P w b sv pv l) : sv.ownBlock ≠ some b ∧ pv.ownBlock ≠ some b ∧ (∀ g, sv.ownBlock = some g → pv.ownBlock ≠ some g) := by
  obtain ⟨hs, ho, hh⟩ := h.row
  refine ⟨fun e => ?_, fun e => ?_, fun g e e2 => ?_⟩
  · rcases h.pc with ⟨-, rfl, -⟩ | ⟨hn, g, c, arr, rfl, h1, h2, h3, h4⟩
    · cases e
    · cases e; rw [h.blk] at h3; cases h3
  · obtain ⟨c, f, hc⟩ := own_kind ho e
    rw [h.blk] at hc; cases hc
  · obtain ⟨c, f, hc⟩ := own_kind ho e2
    rcases h.pc with ⟨-, rfl, -⟩ | ⟨hn, g, c, arr, rfl, h1, h2, h3, h4⟩
    · cases e
    · cases e; rw [h3] at hc; cases hc
/- The samples one by one. -/
theorem own_sl {B : Nat} {P : Nat → Prop} {w : World} {pv : Value} {hs : List Sh} {l : List Sp} (ho : Own Sh.cells 2 105 B w pv hs) (hh : HeadsS P w hs l) (hlen : l.length ≤ 1000) :
    ∃ p c, pv = .slice p l.length c ∧ l.length ≤ c ∧ ∀ j s, l[j]? = some s → ∃ g o kp kc, p = some ⟨g, o, none⟩ ∧ w.cell? ⟨g, o + j * 2, none⟩ = some (.int .i64 s.t) ∧ w.cell? ⟨g, o + j * 2 + 1, none⟩ = some (.slice kp (List.length s.vs) kc) ∧ RowIn (ty36 P w) w (.slice kp (List.length s.vs) kc) s.vs := by
  obtain ⟨p, c, hv, hc, hm, hx⟩ := Own.sl ho sh_len (bs2 (by rw [hh.1]; exact hlen))
  refine ⟨p, c, by rw [hv, hh.1], by have := hc.1; rw [hh.1] at this; exact this, fun j s hj => ?_⟩
  have hjl : j < hs.length := by rw [hh.1]; exact (List.getElem?_eq_some_iff.1 hj).1
  obtain ⟨g, o, hp, -, hcell⟩ := hx (by intro e; subst e; simp at hjl)
  obtain ⟨hnm, hrow⟩ := hh.2 j _ _ (List.getElem?_eq_getElem hjl) hj
  obtain ⟨c0, c1⟩ := sh_at (hcell j _ (List.getElem?_eq_getElem hjl))
  obtain ⟨kp, kc, hk, hr⟩ := hrow
  rw [hnm] at c0
  rw [hk] at c1
  exact ⟨g, o, kp, kc, hp, c0, c1, kp, kc, rfl, hr⟩
theorem own_sl0 {B : Nat} {P : Nat → Prop} {w : World} {pv : Value} {hs : List Sh} {l : List Sp} (ho : Own Sh.cells 2 105 B w pv hs) (hh : HeadsS P w hs l) :
    ∃ p c, pv = .slice p l.length c ∧ l.length ≤ c ∧ c ≤ maxLen ∧ (l ≠ [] → ∃ g, p = some ⟨g, 0, none⟩) := by
  rcases ho.2 with ⟨hv, h0⟩ | ⟨g, cap, cur, hv, hg, hblk, hc, hm, _⟩
  · exact ⟨none, 0, by rw [hv, ← hh.1, h0], by rw [← hh.1, h0]; exact Nat.le_refl _, Nat.zero_le _, fun hn => absurd (List.eq_nil_of_length_eq_zero (by rw [← hh.1, h0])) hn⟩
  · exact ⟨_, cap, by rw [hv, hh.1], by rw [← hh.1]; exact hc, hm, fun _ => ⟨g, rfl⟩⟩
end Go.Proofs.YtlbjbkhcnafhcaaGreat.RN
namespace Go.Proofs.YtlbjbkhcnafhcaaGreat.RN
open Go.RowKit Go.Sort Go.Shelf

def cmpI (a b : Int) : Int := if a < b then -1 else if b < a then 1 else 0
set_option maxRecDepth 100000 in
set_option maxHeartbeats 400000 in
theorem compare_any {a b : Int} {w : World} : Calls Tryz.prog 83 #[.int .i64 a, .int .i64 b] w fun e w' => e = .returned (.int .i64 (cmpI a b)) ∧ w' = w := by
  unfold cmpI
  by_cases h1 : a < b
  · rw [if_pos h1]
    go_enter Tryz.func83, Tryz.ntmps83
    go_wp2
    go_ret
    exact ⟨rfl, rfl⟩
  · rw [if_neg h1]
    by_cases h2 : b < a
    · rw [if_pos h2]
      go_enter Tryz.func83, Tryz.ntmps83
      go_wp2
      go_ret
      exact ⟨rfl, rfl⟩
    · rw [if_neg h2]
      go_enter Tryz.func83, Tryz.ntmps83
      go_wp2
      go_ret
      exact ⟨rfl, rfl⟩
set_option maxRecDepth 100000 in
set_option maxHeartbeats 400000 in
theorem find2_any {t at' : Int} {kv : Value} {w : World} : Calls Tryz.prog 82 #[.agg #[.int .i64 t, kv], .int .i64 at'] w fun e w' => e = .returned (.int .i64 (cmpI t at')) ∧ Below w.heap.size w w' := by
  go_enter Tryz.func82, Tryz.ntmps82
  go_wp2_with (go_at_call 83; refine compare_any.mono ?_; rintro e w1 ⟨rfl, rfl⟩)
  go_ret
  exact ⟨rfl, (Below.refl _ _).alloc (Nat.le_refl _) _⟩
theorem cmpI_lt {a b : Int} : (cmpI a b < 0) ↔ a < b := by
  unfold cmpI
  by_cases h : a < b
  · simp [h]
  · by_cases h2 : b < a <;> simp [h, h2]
theorem cmpI_eq {a b : Int} : (cmpI a b = 0) ↔ a = b := by
  unfold cmpI
  by_cases h : a < b
  · simp [h]; omega
  · by_cases h2 : b < a <;> simp [h, h2] <;> omega
theorem enters28 : ∀ args w, (callFunc 82 args).run Tryz.prog w = .ok (.enter 82 args) w := enters_of Tryz.func82 (by kernel_rfl) rfl
set_option maxRecDepth 100000 in
set_option maxHeartbeats 2000000 in
theorem bsf_any {B : Nat} {P : Nat → Prop} {w : World} {pv : Value} {hs : List Sh} {l : List Sp} {at' : Int} (ho : Own Sh.cells 2 105 B w pv hs) (hh : HeadsS P w hs l) (hlen : l.length ≤ 1000) (hu : Up l) :
    Calls Tryz.prog 81 #[pv, .int .i64 at', .func (.func 82) #[] #[]] w fun e w' => e = .returned (.tuple #[.int .i64 (posT at' l : Nat), .bool (hasT l at')]) ∧ Below w.heap.size w w' := by
  obtain ⟨p, c, rfl, hcap, hx⟩ := own_sl ho hh hlen
  have HX := hid hx
  have HU := hid hu
  clear hx hu ho hh
  generalize hn : l.length = n at *
  have HN := hid hn
  clear hn
  generalize hpp : posT at' l = pp
  generalize hqq : hasT l at' = qq
  have HPP := hid hpp
  have HQQ := hid hqq
  clear hpp hqq
  go_enter Tryz.func81, Tryz.ntmps81
  go_wp2
  go_loopw [9, 10] (fun iv jv wr => ∃ lo hi : Nat, iv = .int .i64 lo ∧ jv = .int .i64 hi ∧ lo ≤ hi ∧ hi ≤ n ∧ Hid (∀ j s, j < lo → l[j]? = some s → s.t < at') ∧ Hid (∀ j s, hi ≤ j → l[j]? = some s → at' ≤ s.t) ∧ Hid (Below w.heap.size w wr)) (fun iv jv _ => (intOf jv - intOf iv).toNat)
  case atStart => exact ⟨0, n, rfl, rfl, Nat.zero_le _, Nat.le_refl _, (fun j s h _ => absurd h (Nat.not_lt_zero _)), (fun j s h hs => by have := (List.getElem?_eq_some_iff.1 hs).1; have := HN.out; omega), Below.refl _ _⟩
  case round =>
    obtain ⟨lo, hi, rfl, rfl, hlh, hin, HA, HC, HB⟩ := hrel
    obtain ⟨W1, hW1⟩ : ∃ W, W = wr := ⟨wr, rfl⟩
    subst hW1
    by_cases hlt : lo < hi
    · obtain ⟨m, hm⟩ : ∃ m, m = (lo + hi) / 2 := ⟨_, rfl⟩
      have hmi : ((lo : Int) + (hi : Int)).fdiv (2 ^ min (Int.toNat 1) IntKind.u64.bits) = (m : Int) := by show Int.fdiv _ 2 = _; rw [Int.fdiv_eq_ediv_of_nonneg _ (by omega)]; omega
      have hml : m < n := by omega
      have hm' : m < l.length := by rw [HN.out]; exact hml
      obtain ⟨s, hs⟩ : ∃ s, l[m]? = some s := ⟨l[m], List.getElem?_eq_getElem hm'⟩
      obtain ⟨g, o, kp, kc, rfl, c0, c1, -⟩ := HX.out m s hs
      have d0 := cell_onB c0 HB.out
      have d1 := cell_onB c1 HB.out
      have HS := hid hs
      have HM := hid hm
      rw [hm] at d0 d1 hmi
      clear c0 c1 hs hm
      by_cases hc : s.t < at'
      · have hc' := cmpI_lt.2 hc
        go_wp2_with (first | (go_at_call 82; refine find2_any.mono ?_; rintro e w2 ⟨rfl, hb2⟩; have HB2 := hid hb2; clear hb2))
        go_roundw
        case rel =>
          have hm := HM.out
          refine ⟨m + 1, hi, by rw [hm]; go_num, rfl, by omega, hin, fun j x hj hx => ?_, HC.out, HB.out.trans (HB2.out.mono HB.out.size)⟩
          by_cases e : j = m
          · subst e; rw [HS.out] at hx; cases hx; exact hc
          · by_cases e2 : j < m
            · have := up_lt HU.out e2 hx HS.out; omega
            · omega
        case measure => simp [intOf]; omega
      · have hc' : ¬ cmpI s.t at' < 0 := fun h => hc (cmpI_lt.1 h)
        go_wp2_with (first | (go_at_call 82; refine find2_any.mono ?_; rintro e w2 ⟨rfl, hb2⟩; have HB2 := hid hb2; clear hb2))
        go_roundw
        case rel =>
          have hm := HM.out
          refine ⟨lo, m, rfl, by rw [hm]; go_num, by omega, by omega, HA.out, fun j x hj hx => ?_, HB.out.trans (HB2.out.mono HB.out.size)⟩
          by_cases e : j = m
          · subst e; rw [HS.out] at hx; cases hx; omega
          · have := up_lt HU.out (show m < j by omega) HS.out hx; omega
        case measure => simp [intOf]; omega
    · obtain rfl : lo = hi := by omega
      have hpos : posT at' l = lo := posT_of (by rw [HN.out]; exact hin) HA.out (fun s hs => HC.out lo s (Nat.le_refl _) hs)
      obtain rfl : lo = pp := hpos.symm.trans HPP.out
      by_cases hln : lo < n
      · have hm' : lo < l.length := by rw [HN.out]; exact hln
        obtain ⟨s, hs⟩ : ∃ s, l[lo]? = some s := ⟨l[lo], List.getElem?_eq_getElem hm'⟩
        obtain ⟨g, o, kp, kc, rfl, c0, c1, -⟩ := HX.out lo s hs
        have d0 := cell_onB c0 HB.out
        have d1 := cell_onB c1 HB.out
        have hht : hasT l at' = (cmpI s.t at' == 0) := by
          by_cases e : s.t = at'
          · rw [hasT_of hs e, (cmpI_eq).2 e]; rfl
          · rw [hasT_none HU.out (fun x hx => by rw [hpos, hs] at hx; cases hx; exact e)]
            have : ¬ cmpI s.t at' = 0 := fun h => e (cmpI_eq.1 h)
            simp [this]
        rw [HQQ.out] at hht
        subst hht
        clear c0 c1 hs hpos
        go_wp2_with (first | (go_at_call 82; refine find2_any.mono ?_; rintro e w2 ⟨rfl, hb2⟩; have HB2 := hid hb2; clear hb2))
        go_ret2
        exact ⟨rfl, HB.out.trans (HB2.out.mono HB.out.size)⟩
      · have hht : hasT l at' = false := hasT_none HU.out (fun x hx => by have := (List.getElem?_eq_some_iff.1 hx).1; rw [hpos, HN.out] at this; exact absurd this hln)
        rw [HQQ.out] at hht
        subst hht
        clear hpos
        go_wp2
        go_ret2
        exact ⟨rfl, HB.out⟩
end Go.Proofs.YtlbjbkhcnafhcaaGreat.RN
namespace Go.Proofs.YtlbjbkhcnafhcaaGreat.RN
open Go.RowKit Go.Sort Go.Shelf

/- A run that has samples, opened. -/
structure Rv (P : Nat → Prop) (w : World) (b g c g2 c2 : Nat) (l : List Sp) : Prop where
  k0 : w.cell? ⟨b, 0, none⟩ = some (.slice (some ⟨g, 0, none⟩) 1 c)
  k1 : w.cell? ⟨g, 0, none⟩ = some (.slice (some ⟨g2, 0, none⟩) l.length c2)
  hc : 1 ≤ c
  hc2 : l.length ≤ c2
  sm : ∀ (j : Nat) s, l[j]? = some s → ∃ kp kc, w.cell? ⟨g2, j * 2, none⟩ = some (.int .i64 s.t) ∧ w.cell? ⟨g2, j * 2 + 1, none⟩ = some (.slice kp (List.length s.vs) kc) ∧ RowIn (ty36 P w) w (.slice kp (List.length s.vs) kc) s.vs
theorem rk_view {B : Nat} {P : Nat → Prop} {w : World} {b : Nat} {sv pv : Value} {l : List Sp} (h : Rk B P w b sv pv l) (hlen : l.length ≤ 1000) (hne : l ≠ []) :
    ∃ g c g2 c2, sv = .slice (some ⟨g, 0, none⟩) 1 c ∧ pv = .slice (some ⟨g2, 0, none⟩) l.length c2 ∧ Rv P w b g c g2 c2 l := by
  obtain ⟨hs, ho, hh⟩ := h.row
  rcases h.pc with ⟨h0, -⟩ | ⟨-, g, c, arr, rfl, h1, h2, h3, h4⟩
  · exact absurd h0 hne
  · obtain ⟨p', c', h6, h7, -, h9⟩ := own_sl0 ho hh
    obtain ⟨g2, h10⟩ := h9 hne
    obtain ⟨p, c2, rfl, hc2, hx⟩ := own_sl ho hh hlen
    injection h6 with e1 e2 e3
    subst e1 h10
    refine ⟨g, c, g2, c2, rfl, rfl, ⟨by rw [block_cell h.blk]; rfl, by rw [block_cell h3]; exact h4, h1, hc2, fun j s hj => ?_⟩⟩
    obtain ⟨g', o, kp, kc, hp, c0, c1, hr⟩ := hx j s hj
    cases hp
    rw [Nat.zero_add] at c0 c1
    exact ⟨kp, kc, c0, c1, hr⟩
theorem rk_none {B : Nat} {P : Nat → Prop} {w : World} {b : Nat} {sv pv : Value} (h : Rk B P w b sv pv []) : sv = .slice none 0 0 ∧ pv = .slice none 0 0 ∧ w.cell? ⟨b, 0, none⟩ = some (.slice none 0 0) := by
  rcases h.pc with ⟨-, h1, h2⟩ | ⟨h0, -⟩
  · exact ⟨h1, h2, by rw [block_cell h.blk, h1]; rfl⟩
  · exact absurd rfl h0
theorem Rv.on {P : Nat → Prop} {w w' : World} {b g c g2 c2 : Nat} {l : List Sp} (h : Rv P w b g c g2 c2 l) (hb : Below w.heap.size w w') : Rv P w' b g c g2 c2 l :=
  ⟨cell_onB h.k0 hb, cell_onB h.k1 hb, h.hc, h.hc2, fun j s hj => by
    obtain ⟨kp, kc, c0, c1, hr⟩ := h.sm j s hj
    exact ⟨kp, kc, cell_onB c0 hb, cell_onB c1 hb, row_kp (T := fun _ => False) hr (Kp.of hb) (fun _ _ => id)⟩⟩
set_option maxRecDepth 100000 in
set_option maxHeartbeats 1000000 in
theorem find1_any {P : Nat → Prop} {w : World} {b g c g2 c2 bb bx : Nat} {l : List Sp} {s : Sp} {at' : Int} (h : Rv P w b g c g2 c2 l) (hs : l[0]? = some s) (hb : w.cell? ⟨bb, 0, none⟩ = some (dp b)) (hx : w.cell? ⟨bx, 0, none⟩ = some (.int .i64 at')) :
    Calls Tryz.prog 80 #[.int .i64 0, dp bb, dp bx] w fun e w' => e = .returned (.bool (decide (at' < s.t))) ∧ Below w.heap.size w w' := by
  obtain ⟨kp, kc, c0, c1, -⟩ := h.sm 0 s hs
  obtain ⟨k0, k1, hc, hc2, -⟩ := h
  have hl0 := (List.getElem?_eq_some_iff.1 hs).1
  rw [Nat.zero_mul] at c0 c1
  clear hs
  generalize l.length = n at *
  go_enter Tryz.func80, Tryz.ntmps80
  go_wp2_with fail
  go_quiet (fail)
  go_wp2
  go_ret
  exact ⟨by rfl, below_drewN (Below.refl _ _) _⟩
set_option maxRecDepth 100000 in
set_option maxHeartbeats 1000000 in
theorem search1 {w : World} {x y : Value} {q : Bool} (hf : Calls Tryz.prog 80 #[.int .i64 0, x, y] w fun e w'' => e = .returned (.bool q) ∧ Below w.heap.size w w'') :
    Calls Tryz.prog 79 #[.int .i64 1, .func (.func 80) #[] #[x, y]] w fun e w' => e = .returned (.int .i64 (if q then 0 else 1)) ∧ Below w.heap.size w w' := by
  have HF := hid hf
  clear hf
  have hmi : (1 : Int).fdiv (2 ^ min (Int.toNat 1) IntKind.u64.bits) = 0 := by decide
  generalize hr : (if q then (0 : Int) else 1) = r
  have HR := hid hr
  clear hr
  go_enter Tryz.func79, Tryz.ntmps79
  go_wp2
  go_loopw [5, 6] (fun iv jv wr => (iv = .int .i64 0 ∧ jv = .int .i64 1 ∧ wr = w) ∨ (iv = .int .i64 r ∧ jv = .int .i64 r ∧ Hid (Below w.heap.size w wr))) (fun iv jv _ => (intOf jv - intOf iv).toNat)
  case atStart => exact .inl ⟨rfl, rfl, rfl⟩
  case round =>
    rcases hrel with ⟨rfl, rfl, hw⟩ | ⟨rfl, rfl, HB⟩
    · subst hw
      cases q with
      | true =>
        obtain rfl : r = 0 := HR.out.symm
        go_wp2_with (go_at_call 80; refine HF.out.mono ?_; rintro e w2 ⟨rfl, hb2⟩; have HB2 := hid hb2; clear hb2)
        go_roundw
        case rel => exact .inr ⟨rfl, rfl, HB2.out⟩
        case measure => simp [intOf]
      | false =>
        obtain rfl : r = 1 := HR.out.symm
        go_wp2_with (go_at_call 80; refine HF.out.mono ?_; rintro e w2 ⟨rfl, hb2⟩; have HB2 := hid hb2; clear hb2)
        go_roundw
        case rel => exact .inr ⟨rfl, rfl, HB2.out⟩
        case measure => simp [intOf]
    · go_wp2
      go_ret
      exact ⟨rfl, HB.out⟩
set_option maxRecDepth 100000 in
set_option maxHeartbeats 1000000 in
theorem search0 {w : World} {v : Value} : Calls Tryz.prog 79 #[.int .i64 0, v] w fun e w' => e = .returned (.int .i64 0) ∧ Below w.heap.size w w' := by
  go_enter Tryz.func79, Tryz.ntmps79
  go_wp2
  go_loopw [5, 6] (fun iv jv wr => iv = .int .i64 0 ∧ jv = .int .i64 0 ∧ Hid (Below w.heap.size w wr)) (fun iv jv _ => 0)
  case atStart => exact ⟨rfl, rfl, Below.refl _ _⟩
  case round =>
    obtain ⟨rfl, rfl, HB⟩ := hrel
    go_wp2
    go_ret
    exact ⟨rfl, HB.out⟩
theorem posT_first {l : List Sp} {s : Sp} {at' : Int} (hs : l[0]? = some s) (h : at' < s.t) : posT at' l = 0 := posT_of (Nat.zero_le _) (fun j x hj => absurd hj (Nat.not_lt_zero _)) (fun x hx => by rw [hs] at hx; cases hx; omega)
theorem two_boxes (w : World) (b : Nat) (at' : Int) : ((w.alloc (.cells #[dp b] 74)).alloc (.cells #[.int .i64 at'] 3)).cell? ⟨w.heap.size, 0, none⟩ = some (dp b) ∧ ((w.alloc (.cells #[dp b] 74)).alloc (.cells #[.int .i64 at'] 3)).cell? ⟨w.heap.size + 1, 0, none⟩ = some (.int .i64 at') := by
  have h1 := block_on (alloc_block w (.cells #[dp b] 74)) ((Below.refl _ _).alloc (Nat.le_refl _) (.cells #[.int .i64 at'] 3))
  have h2 := alloc_block (w.alloc (.cells #[dp b] 74)) (.cells #[.int .i64 at'] 3)
  rw [World.size_alloc] at h2
  exact ⟨by rw [block_cell h1]; rfl, by rw [block_cell h2]; rfl⟩
theorem bsf_rk {B : Nat} {P : Nat → Prop} {w : World} {b pp : Nat} {sv pv : Value} {l : List Sp} {at' : Int} {qq : Bool} (h : Rk B P w b sv pv l) (hlen : l.length ≤ 1000) (hp : posT at' l = pp) (hq : hasT l at' = qq) :
    Calls Tryz.prog 81 #[pv, .int .i64 at', .func (.func 82) #[] #[]] w fun e w' => e = .returned (.tuple #[.int .i64 (pp : Nat), .bool qq]) ∧ Below w.heap.size w w' := by
  obtain ⟨hs, ho, hh⟩ := h.row
  rw [← hp, ← hq]
  exact bsf_any ho hh hlen h.up
set_option maxRecDepth 100000 in
set_option maxHeartbeats 2000000 in
theorem find_any {B : Nat} {P : Nat → Prop} {w : World} {b : Nat} {sv pv : Value} {l : List Sp} {at' : Int} (h : Rk B P w b sv pv l) (hlen : l.length ≤ 1000) :
    Calls Tryz.prog 55 #[dp b, .int .i64 at'] w fun e w' => e = .returned (.tuple #[.int .i64 0, .int .i64 (posT at' l : Nat), .bool (hasT l at')]) ∧ Below w.heap.size w w' := by
  have hbl := lt_of_block h.blk
  have hb2 := ((Below.refl _ w).alloc (Nat.le_refl _) (.cells #[dp b] 74)).alloc (by simp) (.cells #[.int .i64 at'] 3)
  obtain ⟨x0, x1⟩ := two_boxes w b at'
  have HX0 := hid x0
  have HX1 := hid x1
  have HB2 := hid hb2
  cases l with
  | nil =>
    obtain ⟨rfl, rfl, k0⟩ := rk_none h
    have k2 := cell_onB k0 hb2
    clear h hb2 k0
    go_enter Tryz.func55, Tryz.ntmps55
    go_wp2_with (first | (go_at_call 79; refine search0.mono ?_; rintro e w3 ⟨rfl, hb3⟩; have HB3 := hid (HB2.out.trans (hb3.mono HB2.out.size)); clear hb3 k2))
    go_ret3
    exact ⟨rfl, HB3.out⟩
  | cons s r =>
    have hs : (s :: r)[0]? = some s := rfl
    generalize hll : s :: r = l at *
    have hne : l ≠ [] := by rw [← hll]; simp
    obtain ⟨g, c, g2, c2, rfl, rfl, hv⟩ := rk_view h hlen hne
    have HV2 := hid (hv.on hb2)
    have HK := hid h
    have HS := hid hs
    have HLen := hid hlen
    have k2 := (hv.on hb2).k0
    have hc1 := hv.hc
    clear h hv hb2 hll hne hs hlen
    by_cases hc : at' < s.t
    · have hp := posT_first HS.out hc
      have hh : hasT l at' = false := hasT_none HK.out.up (fun x hx => by rw [hp, HS.out] at hx; cases hx; omega)
      rw [hp, hh]
      have hf := find1_any HV2.out HS.out HX0.out HX1.out
      rw [decide_eq_true hc] at hf
      have HF := hid hf
      clear hf
      clear hp hh
      go_enter Tryz.func55, Tryz.ntmps55
      go_wp2_with (first | (go_at_call 79; refine (search1 HF.out).mono ?_; rintro e w3 ⟨rfl, hb3⟩; have HB3 := hid (HB2.out.trans (hb3.mono HB2.out.size)); clear hb3 k2))
      go_ret3
      exact ⟨rfl, HB3.out⟩
    · have hf := find1_any HV2.out HS.out HX0.out HX1.out
      rw [decide_eq_false hc] at hf
      have HF := hid hf
      clear hf
      have HW3 : Hid (∀ w3, Below ((w.alloc (.cells #[dp b] 74)).alloc (.cells #[.int .i64 at'] 3)).heap.size ((w.alloc (.cells #[dp b] 74)).alloc (.cells #[.int .i64 at'] 3)) w3 → w3.cell? ⟨b, 0, none⟩ = some (.slice (some ⟨g, 0, none⟩) 1 c) ∧ w3.cell? ⟨g, 0, none⟩ = some (.slice (some ⟨g2, 0, none⟩) l.length c2) ∧ w3.cell? ⟨w.heap.size, 0, none⟩ = some (dp b) ∧ w3.cell? ⟨w.heap.size + 1, 0, none⟩ = some (.int .i64 at')) := fun w3 hb => ⟨(HV2.out.on hb).k0, (HV2.out.on hb).k1, cell_onB HX0.out hb, cell_onB HX1.out hb⟩
      generalize hpp : posT at' l = pp
      generalize hqq : hasT l at' = qq
      have HPP := hid hpp
      have HQQ := hid hqq
      clear hpp hqq
      go_enter Tryz.func55, Tryz.ntmps55
      go_wp2_with (first | (go_at_call 79; refine (search1 HF.out).mono ?_; rintro e w3 ⟨rfl, hb3⟩; have HB3 := hid (HB2.out.trans (hb3.mono HB2.out.size)); obtain ⟨y0, y1, y2, y3⟩ := HW3.out w3 hb3; clear hb3 k2))
      have z0 := cell_regrown y0
      have z1 := cell_regrown y1
      have z2 := cell_regrown y2
      have z3 := cell_regrown y3
      have HKg : ∀ d os, Hid (Rk B P (grow (redrawn w3 d) os) b (.slice (some ⟨g, 0, none⟩) 1 c) (.slice (some ⟨g2, 0, none⟩) l.length c2) l) := fun d os => (HK.out.on HB3.out).on (below_regrown w3 d os)
      refine wp_region_quiet_below (by kernel_rfl) (by kernel_rfl) ?_
      repeat (go_big_quiet_step (first | (go_at_call 81; exact Calls.regrown_of (bsf_rk (HKg _ _).out HLen.out HPP.out HQQ.out))))
      refine wpQuiet_nil ?_
      intro _ hw'
      obtain ⟨⟨dq, osq⟩, hw''⟩ := hw'
      subst hw''
      have HB4 := hid (HB3.out.trans ((below_regrown w3 dq osq).mono HB3.out.size))
      clear y0 y1 y2 y3 z0 z1 z2 z3 HKg
      go_wp2
      go_ret3
      exact ⟨rfl, HB4.out⟩
end Go.Proofs.YtlbjbkhcnafhcaaGreat.RN
