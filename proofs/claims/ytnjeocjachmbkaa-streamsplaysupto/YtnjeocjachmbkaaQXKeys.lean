/-
  What Keys and Clone of package streams return, for any dictionary.
-/
import Derived.Test.YtnjeocjachmbkaaQXOf
import Derived.Deep.RegionHeld3
import Derived.Deep.CutRange
import Derived.Shelf.SlMaps.Clone
namespace Go.Proofs.Ytnjeocjachmbkaa
open Go.RowKit Go.Sort Go.Maps Go.Shelf

def inB (l : List Sm) (i : Int) : Bool := decide (0 ≤ i ∧ i < (l.length : Int))
def keyS (l : List Sm) (i : Int) : Sm := if inB l i then l[i.toNat]! else ⟨⟨#[]⟩, []⟩
theorem keyS_out {l : List Sm} {i : Int} (h : inB l i = false) : keyS l i = ⟨⟨#[]⟩, []⟩ := by unfold keyS; rw [h]; rfl
theorem keyS_in {l : List Sm} {k : Nat} {s : Sm} (h : l[k]? = some s) : keyS l (k : Int) = s ∧ inB l (k : Int) = true := by
  have hk := (List.getElem?_eq_some_iff.1 h).1
  have hb : inB l (k : Int) = true := by simp [inB]; exact hk
  refine ⟨?_, hb⟩
  unfold keyS
  rw [hb, if_pos rfl, Int.toNat_natCast, getElem!_pos l k hk]
  rw [List.getElem?_eq_getElem hk] at h
  exact Option.some.inj h
abbrev K3 (b g o : Nat) (sv : Value) (nm : ByteArray) (kv : Value) (w : World) : Prop := w.cell? ⟨b, 1, none⟩ = some sv ∧ w.cell? ⟨g, o, none⟩ = some (.string nm) ∧ w.cell? ⟨g, o + 1, none⟩ = some kv
theorem k3D {b g o : Nat} {sv : Value} {nm : ByteArray} {kv : Value} {w : World} (h : K3 b g o sv nm kv w) : K3 b g o sv nm kv w.drew := h
theorem k3On {b g o : Nat} {sv : Value} {nm : ByteArray} {kv : Value} {w w' : World} (h : K3 b g o sv nm kv w) (hb : Below w.heap.size w w') : K3 b g o sv nm kv w' := ⟨cell_onB h.1 hb, cell_onB h.2.1 hb, cell_onB h.2.2 hb⟩
set_option maxRecDepth 100000 in
set_option maxHeartbeats 1000000 in
theorem keys_out {w : World} {b : Nat} {most : Int} {m : Nat} {n : Nat} {p : Option Addr} {c : Nat} {i : Int} (hb : w.heap[b]? = some (.cells #[.int .i64 most, .slice p n c, .map (some m)] 80)) (hi : i < 0 ∨ (n : Int) ≤ i) :
    Calls Try.prog 22 #[dp b, .int .i64 i] w fun e w' => e = .returned (.tuple #[.string ⟨#[]⟩, .slice none 0 0, .bool false]) ∧ w' = w := by
  have k0 := block_cell hb
  by_cases h0 : i < 0
  · go_enter Try.func22, Try.ntmps22
    go_wp2
    exact bodyPost_ret (v := .tuple #[.string ⟨#[]⟩, .slice none 0 0, .bool false]) (by simp [results, Try.results22, go_sem]) rfl ⟨rfl, rfl⟩
  · have h1 : (n : Int) ≤ i := by omega
    clear hi
    go_enter Try.func22, Try.ntmps22
    go_wp2
    exact bodyPost_ret (v := .tuple #[.string ⟨#[]⟩, .slice none 0 0, .bool false]) (by simp [results, Try.results22, go_sem]) rfl ⟨rfl, rfl⟩
set_option maxRecDepth 100000 in
set_option maxHeartbeats 1000000 in
theorem keys_in {B : Nat} {P : Nat → Prop} {w : World} {b : Nat} {most : Int} {sv : Value} {m : Nat} {l : List Sm} {k : Nat} {s : Sm} (h : Dk B P w b most sv m l) (hlen : l.length ≤ 1000) (hs : l[k]? = some s) :
    Calls Try.prog 22 #[dp b, .int .i64 (k : Int)] w fun e w' => ∃ p c, e = .returned (.tuple #[.string s.nm, .slice p (List.length s.ks) c, .bool true]) ∧ RowAt w' (.slice p (List.length s.ks) c) s.ks ∧ Below w.heap.size w w' := by
  have k0 := block_cell h.blk
  obtain ⟨p, c, rfl, hcap, hx⟩ := dk_sl h hlen
  obtain ⟨g, o, kp, kc, rfl, c0, c1, hr⟩ := hx k s hs
  have hk : k < l.length := (List.getElem?_eq_some_iff.1 hs).1
  have HR := hid hr.at
  have hS0 : K3 b g (o + k * 2) (.slice (some ⟨g, o, none⟩) l.length c) s.nm (.slice kp (List.length s.ks) kc) w := ⟨k0 1, c0, c1⟩
  have HS := hid hS0
  clear hx hs hr c0 c1 h
  generalize l.length = n at *
  generalize hns : List.length s.ks = ns at *
  have HNS := hid hns
  clear hns
  have g1 : ¬ (n : Int) ≤ (k : Int) := by omega
  go_enter Try.func22, Try.ntmps22
  go_wp2_with fail
  clear k0
  go_region_held3 (K3 b g (o + k * 2) (.slice (some ⟨g, o, none⟩) n c) s.nm (.slice kp ns kc)) (((repeat (first | (with_reducible refine k3D ?_))); (with_reducible assumption)))
    (first
    | (refine step_callC (v := .slice kp ns kc) rfl (.tmp 33) 40 rfl (by simp [Act.eval]) enters39 ?_; refine (cloneK_any (P := any) (HR.out.on (Below.refl _ _).drew) (fun _ _ => trivial)).mono ?_; rintro e w2 ⟨p2, c2, rfl, hr2, hb2⟩; rw [HNS.out] at hr2 ⊢; refine ⟨_, rfl, ?_⟩; have HR2 := hid hr2; have HB2 : Hid (Below w.heap.size w w2) := (Below.refl w.heap.size w).drew.trans hb2; have hS2 := k3On HS.out HB2.out; clear hr2 hb2 hS0))
  go_wp2_with fail
  exact bodyPost_ret (v := .tuple #[.string s.nm, .slice p2 ns c2, .bool true]) (by simp [results, Try.results22, go_sem]) rfl ⟨p2, c2, rfl, HR2.out.at, HB2.out⟩
theorem keys_any {B : Nat} {P : Nat → Prop} {w : World} {b : Nat} {most : Int} {sv : Value} {m : Nat} {l : List Sm} {i : Int} (h : Dk B P w b most sv m l) (hlen : l.length ≤ 1000) :
    Calls Try.prog 22 #[dp b, .int .i64 i] w fun e w' => ∃ p c, e = .returned (.tuple #[.string (keyS l i).nm, .slice p (List.length (keyS l i).ks) c, .bool (inB l i)]) ∧ RowAt w' (.slice p (List.length (keyS l i).ks) c) (keyS l i).ks ∧ Below w.heap.size w w' := by
  cases hi : inB l i with
  | false =>
    rw [keyS_out hi]
    obtain ⟨p, c, rfl, -⟩ := dk_sl h hlen
    refine (keys_out h.blk (by simp [inB] at hi; omega)).mono ?_
    rintro e w' ⟨rfl, rfl⟩
    exact ⟨none, 0, rfl, SlAt.nil _ _ _ _, Below.refl _ _⟩
  | true =>
    obtain ⟨h0, h1⟩ : 0 ≤ i ∧ i < (l.length : Int) := by simpa [inB] using hi
    obtain ⟨k, rfl⟩ : ∃ k : Nat, i = (k : Int) := ⟨i.toNat, by omega⟩
    have hk : k < l.length := by omega
    have hs := List.getElem?_eq_getElem hk
    rw [(keyS_in hs).1]
    exact keys_in h hlen hs
end Go.Proofs.Ytnjeocjachmbkaa
