/-
  What New, Len, Find and Of of package streams return, for any dictionary.
-/
import Derived.Test.YtnjeocjachmbkaaQXMem
namespace Go.Proofs.Ytnjeocjachmbkaa
open Go.RowKit Go.Sort Go.Maps

abbrev dp (b : Nat) : Value := .pointer (some ⟨b, 0, none⟩)
theorem alloc2_block (w : World) (x y : Obj) : ((w.alloc x).alloc y).heap[w.heap.size + 1]? = some y := by
  have := alloc_block (w.alloc x) y
  rwa [World.size_alloc] at this
set_option maxRecDepth 100000 in
set_option maxHeartbeats 1000000 in
theorem new_any {P : Nat → Prop} {most : Int} {w : World} :
    Calls Try.prog 13 #[.int .i64 most] w fun e w' => ∃ b m, e = .returned (dp b) ∧ Dk w.heap.size P w' b most (.slice none 0 0) m [] ∧ Below w.heap.size w w' := by
  have hmm := @run_makeMap Try.prog
  go_enter Try.func13, Try.ntmps13
  go_wp2
  go_ret
  refine ⟨w.heap.size + 1, w.heap.size, rfl, ⟨Nat.le_succ _, Nat.le_refl _, alloc2_block _ _ _, ⟨[], Own.nil _ _ _ _ _, rfl, fun j h s h1 _ => by simp at h1⟩, ⟨.map [], (World.ownsMap_made _ _ _ _).alloc _, AgD.nil⟩, Dc.nil⟩, ((Below.refl _ _).alloc (Nat.le_refl _) _).alloc (by simp) _⟩
set_option maxRecDepth 100000 in
set_option maxHeartbeats 1000000 in
theorem len_any {B : Nat} {P : Nat → Prop} {w : World} {b : Nat} {most : Int} {sv : Value} {m : Nat} {l : List Sm} (h : Dk B P w b most sv m l) :
    Calls Try.prog 19 #[dp b] w fun e w' => e = .returned (.int .i64 l.length) ∧ w' = w := by
  obtain ⟨hs, ho, hh⟩ := h.row
  obtain ⟨p, c, rfl⟩ := own_formN ho hh.1
  have k0 := block_cell h.blk
  go_enter Try.func19, Try.ntmps19
  go_wp2
  go_ret
  exact ⟨rfl, rfl⟩
theorem key_txt {s : Sm} (h : (txt s).size ≤ maxLen) : keyOf Try.prog 9 (.string (txt s)) = some (.string (txtL s)) := WideMaps.keyOf_string_mk Try.underlying9 h
theorem txt_small {nm : ByteArray} {ks : Rw} (hl : List.length ks ≤ 2000000) (hn : nm.size ≤ 2000000) : (textV nm ks).size ≤ maxLen := by
  unfold textV
  split
  · rename_i h
    have h1 : (txt ⟨nm, ks⟩).size = (txtL ⟨nm, ks⟩).length := by show (txtL ⟨nm, ks⟩).toArray.size = _; simp
    rw [h1]
    have h2 := keysB_len h
    have h3 : nm.data.toList.length = nm.size := by rw [Array.length_toList]; rfl
    unfold txtL maxLen
    simp only [List.length_append, List.length_cons, h3]
    omega
  · decide
set_option maxRecDepth 100000 in
set_option maxHeartbeats 1000000 in
theorem find_any {B : Nat} {P : Nat → Prop} {w : World} {b : Nat} {most : Int} {sv : Value} {m : Nat} {l : List Sm} {v : Value} {s : Sm} (h : Dk B P w b most sv m l) (hv : RowAt w v s.ks) (hl : List.length s.ks ≤ 2000000) (hn : s.nm.size ≤ 2000000) (hr : ∀ x ∈ s.ks, Rng x) :
    Calls Try.prog 16 #[dp b, .string s.nm, v] w fun e w' => e = .returned (.tuple #[.int .i64 (findI l s), .bool (memS l s)]) ∧ Below w.heap.size w w' := by
  have HV := hid hv
  have HL := hid hl
  have HN := hid hn
  have HK := hid h
  have HT := hid (txt_small (nm := s.nm) hl hn)
  clear hv hl hn
  have hbl := lt_of_block h.blk
  cases hok : okK s.ks with
  | false =>
    have E1 := hid (memS_bad h.dc hok)
    have E2 := hid (findI_bad h.dc hok)
    have E3 : Hid (textE s.ks = 10) := by show _ = _; unfold textE; rw [hok]; rfl
    clear hok h hr
    go_enter Try.func16, Try.ntmps16
    go_wp2_with (first
      | (go_at_call 38; refine (text_any HV.out HL.out HN.out).mono ?_; rintro e w1 ⟨rfl, hb1⟩; rw [E3.out]))
    exact bodyPost_ret (v := .tuple #[.int .i64 (findI l s), .bool (memS l s)]) (by simp [results, Try.results16, go_sem, E1.out, E2.out]) rfl ⟨rfl, hb1⟩
  | true =>
    have hgd : Gd s := ⟨hok, hr⟩
    have E3 : Hid (textE s.ks = 0) := by show _ = _; unfold textE; rw [hok]; rfl
    have E4 : Hid (textV s.nm s.ks = txt s) := by show _ = _; unfold textV; rw [hok]; rfl
    have HKy := hid (key_txt (s := s) (by rw [← E4.out]; exact HT.out))
    obtain ⟨D, hD, hA⟩ := h.map
    obtain ⟨a1, a2⟩ := hA s hgd
    have HD := hid hD
    have A1 := hid a1
    have A2 := hid a2
    clear hok h hr hgd hD hA a1 a2
    go_enter Try.func16, Try.ntmps16
    go_wp2_with (first
      | (go_at_call 38; refine (text_any HV.out HL.out HN.out).mono ?_; rintro e w1 ⟨rfl, hb1⟩; rw [E3.out, E4.out]; have HB1 := hid hb1; have k1 := block_cell (HK.out.on hb1).blk; have HD1 := hid (map_kp (T := fun _ => False) HD.out (Kp.of hb1) id); clear hb1)
      | (at_lookup; refine wpList_lookup_own_ok_int _ rfl _ _ 77 rfl 9 3 .i64 law9 Try.underlying77 Try.underlying3 (zero3 _) m l.length _ rfl HD1.out _ _ rfl HKy.out ?_; intro c hat hwc; rw [A2.out] at hat; injection hat with hat; injection hat with _ hat; rw [A1.out]; subst hat))
    exact bodyPost_ret (v := .tuple #[.int .i64 (findI l s), .bool (memS l s)]) (by simp [results, Try.results16, go_sem]) rfl ⟨rfl, HB1.out⟩
end Go.Proofs.Ytnjeocjachmbkaa
