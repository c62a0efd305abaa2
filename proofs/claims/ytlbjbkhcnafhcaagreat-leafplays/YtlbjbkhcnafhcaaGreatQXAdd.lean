/-
  What Add of package streams returns, for any dictionary, and what it leaves.
-/
import Derived.Test.YtlbjbkhcnafhcaaGreatP09Txt
import Derived.Test.YtlbjbkhcnafhcaaGreatQRnAppP
import Derived.Shelf.Abstract
namespace Go.Proofs.YtlbjbkhcnafhcaaGreat.SN
open Go.RowKit Go.Sort Go.Maps Go.Shelf

set_option maxHeartbeats 400000 in
theorem cloneK_any {P : Nat → Prop} {u : Value} {r : Rw} {w : World} (hu : RowAt w u r) (hP : ∀ k, w.heap.size ≤ k → P k) :
    Calls Tryz.prog 54 #[u] w fun e w' => ∃ p c, e = .returned (.slice p (List.length r) c) ∧ RowIn (ty36 P w') w' (.slice p (List.length r) c) r ∧ Below w.heap.size w w' := by
  have HU := hid hu
  obtain ⟨p, cap, rfl, hcap, hmax, hx⟩ := hu
  clear hcap hmax hx
  have q22 : ∀ (w : World) (a : Option Addr) (n c n' c' : Nat), (binOp .eql 32 (.slice a n c) (.slice none n' c')).run Tryz.prog w = .ok (.bool a.isNone) w := fun w a n c n' c' => Lib.run_eql_slice_nil w _ _ a n c n' c' Tryz.underlying32
  generalize hn : List.length r = n at *
  have HN := hid hn
  clear hn
  cases p with
  | none =>
    have hn := SlAt.empty HU.out
    subst hn
    obtain rfl : n = 0 := HN.out.symm
    go_enter Tryz.func54, Tryz.ntmps54
    go_wp2
    go_ret
    exact ⟨none, 0, rfl, SlAt.nil _ _ _ _, Below.refl _ _⟩
  | some ad =>
    go_enter Tryz.func54, Tryz.ntmps54
    go_wp2_with (at_builtin; refine app_any elem48 vl_len (fun x _ => vl_cells x) rfl _ _ rfl rfl (Own.made Vl.cells 11 40 w.heap.size w (Nat.le_refl _)) rfl (SlAt.on HU.out ((Below.refl _ _).alloc (Nat.le_refl _) _)) (by simpa using SlAt.bound HU.out) (by simp) ?_; intro v' w1 hown hb1)
    go_ret
    rw [List.nil_append] at hown
    have hr := own_rowT (P := P) hown hP (SlAt.bound HU.out)
    obtain ⟨p, c, rfl⟩ := own_formN hown HN.out
    exact ⟨p, c, rfl, hr, ((Below.refl _ _).alloc (Nat.le_refl _) _).trans hb1⟩
theorem enters39 : ∀ args w, (callFunc 54 args).run Tryz.prog w = .ok (.enter 54 args) w := enters_of Tryz.func54 (by kernel_rfl) rfl
theorem hd_cells {h : Hd} (hk : h.kv.oneCell' = true) : ∀ c ∈ h.cells, c.oneCell' = true := by
  intro c hc; simp [Hd.cells] at hc; rcases hc with rfl | rfl
  · rfl
  · exact hk
theorem head1 {w : World} {nm : ByteArray} {v : Value} {t : TypeId} : SlAt (fun _ => True) Hd.cells 2 (w.alloc (.cells #[.string nm, v] t)) (.slice (some ⟨w.heap.size, 0, none⟩) 1 1) [⟨nm, v⟩] := by
  refine ⟨_, 1, rfl, ⟨Nat.le_refl _, fun e => by cases e⟩, by simp [maxLen], fun _ => ⟨_, 0, rfl, ⟨trivial, by simp [bsz]⟩, fun j x hj i u hu => ?_⟩⟩
  have hj0 : j = 0 := by have := (List.getElem?_eq_some_iff.1 hj).1; simp at this; omega
  subst hj0
  simp at hj
  subst hj
  have hi : i < 2 := by have := (List.getElem?_eq_some_iff.1 hu).1; simpa [Hd.cells] using this
  rw [block_cell (alloc_block w _)]
  rcases i with _ | _ | i
  · simpa [Hd.cells] using hu
  · simpa [Hd.cells] using hu
  · omega
theorem addL_bad {most : Int} {l : List Sm} {s : Sm} (h : okK s.ks = false) : addL most l s = l := by unfold addL; rw [h]; rfl
theorem addL_in {most : Int} {l : List Sm} {s : Sm} (h : memS l s = true) : addL most l s = l := by unfold addL; rw [h]; simp
theorem addL_full {most : Int} {l : List Sm} {s : Sm} (h : fullB most l = true) : addL most l s = l := by unfold addL; rw [h]; simp
theorem addL_new {most : Int} {l : List Sm} {s : Sm} (h1 : okK s.ks = true) (h2 : memS l s = false) (h3 : fullB most l = false) : addL most l s = l ++ [s] := by unfold addL; rw [h1, h2, h3]; simp
def AddPost (fx : Fx) (B : Nat) (P : Nat → Prop) (w : World) (b : Nat) (most : Int) (sv : Value) (m : Nat) (l : List Sm) (s : Sm) (e : Ending) (w' : World) : Prop :=
  e = .returned (.tuple #[.int .i64 (addI most l s), .int .i64 (addE most l s)]) ∧ (∃ sv', Dk fx B P w' b most sv' m (addL most l s) ∧ RN.At w sv sv') ∧ Kp (Tc b sv m) w w'
set_option maxRecDepth 100000 in
set_option maxHeartbeats 2000000 in
theorem add_old {fx : Fx} {B : Nat} {P : Nat → Prop} {w : World} {b : Nat} {most : Int} {sv : Value} {m : Nat} {l : List Sm} {v : Value} {s : Sm} (h : Dk fx B P w b most sv m l) (hv : RowAt w v s.ks) (hl : List.length s.ks ≤ 2000000) (hn : s.nm.size ≤ 2000000) (hr : ∀ x ∈ s.ks, Rng x)
    (hc : okK s.ks = false ∨ memS l s = true ∨ fullB most l = true) :
    Calls Tryz.prog 28 #[dp b, .string s.nm, v] w (AddPost fx B P w b most sv m l s) := by
  have HV := hid hv
  have HL := hid hl
  have HN := hid hn
  have HK := hid h
  have HT := hid (txt_small (nm := s.nm) hl hn)
  clear hv hl hn
  have hbl := lt_of_block h.blk
  obtain ⟨hs, ho, hh⟩ := h.row
  obtain ⟨p, c, rfl⟩ := own_formN ho hh.1
  clear ho hh hs
  cases hok : okK s.ks with
  | false =>
    have E1 : Hid (addI most l s = 0) := by show _ = _; unfold addI; rw [hok]; rfl
    have E2 : Hid (addE most l s = 10) := by show _ = _; unfold addE; rw [hok]; rfl
    have E3 : Hid (textE s.ks = 10) := by show _ = _; unfold textE; rw [hok]; rfl
    have E4 := hid (addL_bad (most := most) (l := l) hok)
    clear hok h hr hc
    go_enter Tryz.func28, Tryz.ntmps28
    go_wp2_with (first
      | (go_at_call 53; refine (text_any HV.out HL.out HN.out).mono ?_; rintro e w1 ⟨rfl, hb1⟩; rw [E3.out]))
    exact bodyPost_ret (v := .tuple #[.int .i64 (addI most l s), .int .i64 (addE most l s)]) (by simp [results, Tryz.results28, go_sem, E1.out, E2.out]) rfl ⟨rfl, ⟨_, (by rw [E4.out]; exact HK.out.on hb1), RN.At.refl _ _⟩, Kp.of hb1⟩
  | true =>
    rw [hok] at hc
    have hgd : Gd s := ⟨hok, hr⟩
    have E3 : Hid (textE s.ks = 0) := by show _ = _; unfold textE; rw [hok]; rfl
    have E4 : Hid (textV s.nm s.ks = txt s) := by show _ = _; unfold textV; rw [hok]; rfl
    have HKy := hid (key_txt (s := s) (by rw [← E4.out]; exact HT.out))
    obtain ⟨D, hD, hA⟩ := h.map
    obtain ⟨a1, a2⟩ := hA s hgd
    have HD := hid hD
    have A1 := hid a1
    have A2 := hid a2
    cases hm : memS l s with
    | true =>
      have hm' : s ∈ l := by simpa [memS] using hm
      have E1 : Hid (addI most l s = findI l s) := by show _ = _; unfold addI findI; rw [hok, if_pos rfl, if_pos hm', if_pos hm']
      have E2 : Hid (addE most l s = 0) := by show _ = _; unfold addE; rw [hok, if_pos rfl, if_pos hm']
      have E5 := hid (addL_in (most := most) hm)
      have HM := hid hm
      clear hok h hr hgd hD hA a1 a2 hm hm' hc
      go_enter Tryz.func28, Tryz.ntmps28
      go_wp2_with (first
        | (go_at_call 53; refine (text_any HV.out HL.out HN.out).mono ?_; rintro e w1 ⟨rfl, hb1⟩; rw [E3.out, E4.out]; have HB1 := hid hb1; have k1 := block_cell (HK.out.on hb1).blk; have HD1 := hid (map_kp (T := fun _ => False) HD.out (Kp.of hb1) id); clear hb1)
        | (at_lookup; refine wpList_lookup_own_ok_int _ rfl _ _ 65 rfl 9 3 .i64 law9 Tryz.underlying65 Tryz.underlying3 (zero3 _) m l.length _ rfl HD1.out _ _ rfl HKy.out ?_; intro c hat hwc; rw [A2.out] at hat; injection hat with hat; injection hat with _ hat; rw [A1.out, HM.out]; subst hat))
      exact bodyPost_ret (v := .tuple #[.int .i64 (addI most l s), .int .i64 (addE most l s)]) (by simp [results, Tryz.results28, go_sem, E1.out, E2.out]) rfl ⟨rfl, ⟨_, (by rw [E5.out]; exact HK.out.on HB1.out), RN.At.refl _ _⟩, Kp.of HB1.out⟩
    | false =>
      have hf : fullB most l = true := by rcases hc with hc | hc | hc
                                          · cases hc
                                          · rw [hm] at hc; cases hc
                                          · exact hc
      have hm' : s ∉ l := by simpa [memS] using hm
      have E1 : Hid (addI most l s = 0) := by show _ = _; unfold addI; rw [hok, if_pos rfl, if_neg hm', hf, if_pos rfl]
      have E2 : Hid (addE most l s = 80) := by show _ = _; unfold addE; rw [hok, if_pos rfl, if_neg hm', hf, if_pos rfl]
      have E5 := hid (addL_full (s := s) hf)
      have HM := hid hm
      have hge : most ≤ (l.length : Int) := by simpa [fullB] using hf
      clear hok h hr hgd hD hA a1 a2 hm hm' hc hf
      go_enter Tryz.func28, Tryz.ntmps28
      go_wp2_with (first
        | (go_at_call 53; refine (text_any HV.out HL.out HN.out).mono ?_; rintro e w1 ⟨rfl, hb1⟩; rw [E3.out, E4.out]; have HB1 := hid hb1; have k1 := block_cell (HK.out.on hb1).blk; have HD1 := hid (map_kp (T := fun _ => False) HD.out (Kp.of hb1) id); clear hb1)
        | (at_lookup; refine wpList_lookup_own_ok_int _ rfl _ _ 65 rfl 9 3 .i64 law9 Tryz.underlying65 Tryz.underlying3 (zero3 _) m l.length _ rfl HD1.out _ _ rfl HKy.out ?_; intro c hat hwc; rw [A2.out] at hat; injection hat with hat; injection hat with _ hat; rw [A1.out, HM.out]; subst hat))
      exact bodyPost_ret (v := .tuple #[.int .i64 (addI most l s), .int .i64 (addE most l s)]) (by simp [results, Tryz.results28, go_sem, E1.out, E2.out]) rfl ⟨rfl, ⟨_, (by rw [E5.out]; exact HK.out.on HB1.out), RN.At.refl _ _⟩, Kp.of HB1.out⟩
theorem dk_ne {fx : Fx} {B : Nat} {P : Nat → Prop} {w : World} {b : Nat} {most : Int} {sv : Value} {m : Nat} {l : List Sm} (h : Dk fx B P w b most sv m l) : sv.ownBlock ≠ some b ∧ sv.ownBlock ≠ some m ∧ m ≠ b := by
  obtain ⟨hs, ho, hh⟩ := h.row
  obtain ⟨D, hD, ha⟩ := h.map
  obtain ⟨es, c, hb⟩ := map_blk hD
  refine ⟨fun e => ?_, fun e => ?_, fun e => ?_⟩
  · obtain ⟨c, f, hc⟩ := own_kind ho e
    rw [h.blk] at hc; cases hc
  · obtain ⟨c, f, hc⟩ := own_kind ho e
    rw [hb] at hc; cases hc
  · subst e; rw [h.blk] at hb; cases hb
theorem dk_grown {fx : Fx} {B : Nat} {P : Nat → Prop} {w w3 : World} {b : Nat} {most : Int} {sv : Value} {m n : Nat} {l : List Sm} {D : D1} (h : Dk fx B P w b most sv m l) (hg : w.grownBy w3 sv.ownBlock) (hD : w.ownsMap Tryz.prog 9 (plainElem Tryz.prog 3) m n D) :
    w3.heap[b]? = some (.cells #[fx.sc, fx.rm, fx.pt, .int .i64 most, sv, .map (some m), fx.sm] 72) ∧ w3.ownsMap Tryz.prog 9 (plainElem Tryz.prog 3) m n D := by
  have hk : Kp (fun k => sv.ownBlock = some k) w w3 := Kp.grown hg (fun k e => e)
  obtain ⟨h1, h2, h3⟩ := dk_ne h
  exact ⟨hk.blk h.blk h1, map_kp hD hk h2⟩
theorem dk_added {fx : Fx} {B : Nat} {P : Nat → Prop} {w w2 w3 w5 : World} {b : Nat} {most : Int} {sv v2 v3 : Value} {m : Nat} {l : List Sm} {s : Sm} {D' : D1} {hs : List Hd} {o : Obj} (h : Dk fx B P w b most sv m l) (hh : HeadsD P w hs l) (hc : Dc (l ++ [s])) (hb2 : Below w.heap.size w w2) (hr2 : RowIn (ty36 P w2) w2 v2 s.ks)
    (hown3 : Own Hd.cells 2 97 B w3 v3 (hs ++ [⟨s.nm, v2⟩])) (hg3 : (w2.alloc o).grownBy w3 sv.ownBlock) (hown5 : w5.ownsMap Tryz.prog 9 (plainElem Tryz.prog 3) m (l.length + 1) D') (hA : AgD D' (l ++ [s])) (hg5 : (w3.setCell ⟨b, 4, none⟩ v3).grownBy w5 (some m)) :
    Dk fx B P w5 b most v3 m (l ++ [s]) ∧ Kp (Tc b sv m) w w5 := by
  have h2 := h.on hb2
  have h2a := h2.on ((Below.refl _ _).alloc (Nat.le_refl _) o)
  obtain ⟨D, hD, ha⟩ := h2a.map
  obtain ⟨n1, n2, n3⟩ := dk_ne h
  obtain ⟨kb3, -⟩ := dk_grown h2a hg3 hD
  have hk3 : Kp (Tc b sv m) (w2.alloc o) w3 := Kp.grown hg3 (fun k e => .inr (.inl e))
  have hk4 : Kp (Tc b sv m) w3 (w3.setCell ⟨b, 4, none⟩ v3) := Kp.set (.inl rfl) _
  have hk5 : Kp (Tc b sv m) (w3.setCell ⟨b, 4, none⟩ v3) w5 := Kp.grown hg5 (fun k e => by cases e; exact .inr (.inr rfl))
  have hka : Kp (Tc b sv m) w2 (w2.alloc o) := Kp.of ((Below.refl _ _).alloc (Nat.le_refl _) o)
  have hk25 : Kp (Tc b sv m) w2 w5 := hka.trans (hk3.trans (hk4.trans hk5))
  have hk : Kp (Tc b sv m) w w5 := (Kp.of hb2).trans hk25
  refine ⟨⟨h.bB, h.mB, ?_, ⟨hs ++ [⟨s.nm, v2⟩], ?_, ?_⟩, ⟨D', by rw [List.length_append]; exact hown5, hA⟩, hc⟩, hk⟩
  · have hk6 : Kp (fun k => k = m) (w3.setCell ⟨b, 4, none⟩ v3) w5 := Kp.grown hg5 (fun k e => by cases e; rfl)
    exact hk6.blk (set_block kb3 v3) (fun e => n3 e.symm)
  · have hk6 : Kp (fun k => k = b ∨ k = m) w3 w5 := (Kp.set (.inl rfl) v3).trans (Kp.grown hg5 (fun k e => by cases e; exact .inr rfl))
    refine own_kp hown3 hk6 (fun g hg => ?_)
    obtain ⟨c, f, hc⟩ := own_kind hown3 hg
    rintro (rfl | rfl)
    · rw [kb3] at hc; cases hc
    · obtain ⟨es, c', hb⟩ := map_blk (dk_grown h2a hg3 hD).2
      rw [hb] at hc; cases hc
  · refine HeadsD.snoc (hh.kp hk (fun k hk => ?_)) rfl (row_kp hr2 hk25 (fun k hk => ?_))
    · obtain ⟨-, c, fz, hc⟩ := hk
      exact h.T_not hc (by decide) (by decide)
    · obtain ⟨-, c, fz, hc⟩ := hk
      exact h2.T_not hc (by decide) (by decide)
theorem small40 {n : Nat} (h : n ≤ 1000) : (n + 1) * 40 ≤ 140737488355328 := by omega
set_option maxRecDepth 100000 in
set_option maxHeartbeats 2000000 in
theorem add_new {fx : Fx} {B : Nat} {P : Nat → Prop} {w : World} {b : Nat} {most : Int} {sv : Value} {m : Nat} {l : List Sm} {v : Value} {s : Sm} (h : Dk fx B P w b most sv m l) (hv : RowAt w v s.ks) (hl : List.length s.ks ≤ 2000000) (hn : s.nm.size ≤ 2000000) (hr : ∀ x ∈ s.ks, Rng x)
    (hlen : l.length ≤ 1000) (hP : ∀ k, w.heap.size ≤ k → P k) (hB : B ≤ w.heap.size) (hok : okK s.ks = true) (hm : memS l s = false) (hf : fullB most l = false) :
    Calls Tryz.prog 28 #[dp b, .string s.nm, v] w (AddPost fx B P w b most sv m l s) := by
  have HV := hid hv
  have HL := hid hl
  have HN := hid hn
  have HK := hid h
  have HP := hid hP
  have HLen := hid hlen
  have HT := hid (txt_small (nm := s.nm) hl hn)
  have hbl := lt_of_block h.blk
  obtain ⟨hs, ho, hh⟩ := h.row
  obtain ⟨p, c, rfl⟩ := own_formN ho hh.1
  obtain ⟨p0, c0, rfl⟩ : ∃ p c, v = .slice p (List.length s.ks) c := let ⟨p, c, h, _⟩ := hv; ⟨p, c, h⟩
  have HO := hid ho
  have HH := hid hh
  have hgd : Gd s := ⟨hok, hr⟩
  have HG := hid hgd
  have E3 : Hid (textE s.ks = 0) := by show _ = _; unfold textE; rw [hok]; rfl
  have E4 : Hid (textV s.nm s.ks = txt s) := by show _ = _; unfold textV; rw [hok]; rfl
  have HKy := hid (key_txt (s := s) (by rw [← E4.out]; exact HT.out))
  obtain ⟨D, hD, hA⟩ := h.map
  have HA := hid hA
  obtain ⟨a1, a2⟩ := hA s hgd
  have HD := hid hD
  have A1 := hid a1
  have A2 := hid a2
  have hm' : s ∉ l := by simpa [memS] using hm
  have HM' := hid hm'
  have E1 : Hid (addI most l s = (l.length : Int)) := by show _ = _; unfold addI; rw [hok, if_pos rfl, if_neg hm', hf, if_neg (by decide)]
  have E2 : Hid (addE most l s = 0) := by show _ = _; unfold addE; rw [hok, if_pos rfl, if_neg hm', hf, if_neg (by decide)]
  have E5 := hid (addL_new hok hm hf)
  have HM := hid hm
  have hge : ¬ most ≤ (l.length : Int) := by simpa [fullB] using hf
  have HDc := hid (h.dc.add (most := most) hr)
  clear hok h hr hgd hD hA a1 a2 hm hm' hf hv hl hn hP hlen ho hh
  go_enter Tryz.func28, Tryz.ntmps28
  go_wp2_with (first
    | (go_at_call 53; refine (text_any HV.out HL.out HN.out).mono ?_; rintro e w1 ⟨rfl, hb1⟩; rw [E3.out, E4.out]; have HB1 := hid hb1; have k1 := block_cell (HK.out.on hb1).blk; have HD1 := hid (map_kp (T := fun _ => False) HD.out (Kp.of hb1) id); clear hb1)
    | (at_lookup; refine wpList_lookup_own_ok_int _ rfl _ _ 65 rfl 9 3 .i64 law9 Tryz.underlying65 Tryz.underlying3 (zero3 _) m l.length _ rfl HD1.out _ _ rfl HKy.out ?_; intro c hat hwc; rw [A2.out] at hat; injection hat with hat; injection hat with _ hat; rw [A1.out, HM.out]; subst hat))
  generalize List.length s.ks = ns at *
  have HDk1 := hid (HK.out.on HB1.out)
  have HDk1d : Hid (Dk fx B P w1.drew b most (.slice p l.length c) m l) := HDk1.out.on (Below.refl _ _).drew
  have k1d := block_cell HDk1d.out.blk
  have HB1d : Hid (Below w.heap.size w w1.drew) := HB1.out.drew
  have M1 : Hid True := trivial
  go_region_law (first
    | (have FIRST := M1; refine step_callC (v := .slice p0 ns c0) rfl (.tmp 50) 32 rfl (by simp [Act.eval]; try rfl) enters39 ?_; refine (cloneK_any (P := P) (HV.out.on HB1d.out) (fun k hk => HP.out k (Nat.le_trans HB1d.out.size hk))).mono ?_; rintro e w2 ⟨p2, c2, rfl, hr2, hb2⟩; refine ⟨_, rfl, ?_⟩; have HR2 := hid hr2; have HB2 := hid hb2; have HDk2 := hid (HDk1d.out.on hb2); have k2 := block_cell HDk2.out.blk; have k2a : ∀ (A : Obj) (o : Nat), (w2.alloc A).cell? ⟨b, o, none⟩ = (#[fx.sc, fx.rm, fx.pt, .int .i64 most, .slice p l.length c, .map (some m), fx.sm] : Array Value)[o]? := (fun A o => block_cell (HDk2.out.on ((Below.refl _ _).alloc (Nat.le_refl _) A)).blk o); clear FIRST M1 hr2 hb2)
    | (refine RN.step_appP (N := 40) (B := B) (xs := hs) (ys := [⟨s.nm, .slice p2 (List.length s.ks) c2⟩]) elem83 hd_len (fun x hx => by simp at hx; subst hx; exact hd_cells rfl) rfl (.tmp 48) (.tmp 53) rfl (by simp [Act.eval]; try rfl) (by simp [Act.eval]; try rfl) (own_kp (T := fun _ => False) HO.out (Kp.of ((HB1d.out.trans (HB2.out.mono HB1d.out.size)).alloc (Nat.le_trans HB1d.out.size HB2.out.size) _)) (fun _ _ => id)) head1 (small40 (by rw [HH.out.1]; exact HLen.out)) (by decide) (by rw [World.size_alloc]; exact Nat.le_trans hB (Nat.le_trans HB1d.out.size (Nat.le_succ_of_le HB2.out.size))) ?_; intro v3 w3 hown3 hg3 hat3; have HAt3 := hid hat3; obtain ⟨p3, c3, rfl⟩ := own_formN (n := l.length + 1) hown3 (by rw [List.length_append, HH.out.1]; rfl); have HO3 := hid hown3; have HG3 := hid hg3; obtain ⟨kb3, hm3⟩ := dk_grown (HDk2.out.on ((Below.refl _ _).alloc (Nat.le_refl _) _)) hg3 (map_kp (T := fun _ => False) HD1.out (Kp.of (((Below.refl _ _).drew.trans HB2.out).alloc HB2.out.size _)) id); have KB3 := hid kb3; have HM3 := hid hm3; have k3 := block_cell kb3; have f3 := block_frozen kb3; clear hown3 hg3 kb3 hm3 hat3))
  all_goals
    have hne3 : m ≠ b := (dk_ne HDk1.out).2.2
    have HM4 := hid (HM3.out.setCell (a := ⟨b, 4, none⟩) hne3 (.slice p3 (l.length + 1) c3))
    have k4 := block_cell (set_block (i := 4) KB3.out (.slice p3 (l.length + 1) c3))
    clear k3 f3 k1 k1d k2 k2a hne3
    go_wp2_with (first
      | (at_mapUpdate; refine wpList_mapUpdate_own _ rfl _ _ _ 65 rfl 9 3 law9 Tryz.underlying65 _ m l.length D rfl HM4.out (by have := HLen.out; unfold maxLen; omega) _ _ _ rfl rfl HKy.out _ [] (plainElem_int Tryz.underlying3 (WalkArith.wf_i64 (by have := HLen.out; omega))) ?_; intro w5 hown5 hg5; have HO5 := hid hown5; have HG5 := hid hg5; clear hown5 hg5)
      | go_in)
    obtain ⟨hf1, hf2⟩ := dk_added HK.out HH.out (by have := HDc.out; rw [E5.out] at this; exact this) (HB1d.out.trans (HB2.out.mono HB1d.out.size)) HR2.out HO3.out HG3.out HO5.out (HA.out.put HM4.out.isMap HG.out HM'.out) HG5.out
    exact bodyPost_ret (v := .tuple #[.int .i64 (addI most l s), .int .i64 (addE most l s)]) (by simp [results, Tryz.results28, go_sem, E1.out, E2.out]) rfl ⟨rfl, ⟨_, (by rw [E5.out]; exact hf1), fun k hk => by have h1 := HB1d.out.size; have h2 := HB2.out.size; rcases HAt3.out k hk with h | h; exact .inl h; exact .inr (by rw [World.size_alloc] at h; omega)⟩, hf2⟩
theorem add_any {fx : Fx} {B : Nat} {P : Nat → Prop} {w : World} {b : Nat} {most : Int} {sv : Value} {m : Nat} {l : List Sm} {v : Value} {s : Sm} (h : Dk fx B P w b most sv m l) (hv : RowAt w v s.ks) (hl : List.length s.ks ≤ 2000000) (hn : s.nm.size ≤ 2000000) (hr : ∀ x ∈ s.ks, Rng x)
    (hlen : l.length ≤ 1000) (hP : ∀ k, w.heap.size ≤ k → P k) (hB : B ≤ w.heap.size) : Calls Tryz.prog 28 #[dp b, .string s.nm, v] w (AddPost fx B P w b most sv m l s) := by
  cases hok : okK s.ks with
  | false => exact add_old h hv hl hn hr (.inl hok)
  | true =>
    cases hm : memS l s with
    | true => exact add_old h hv hl hn hr (.inr (.inl hm))
    | false =>
      cases hf : fullB most l with
      | true => exact add_old h hv hl hn hr (.inr (.inr hf))
      | false => exact add_new h hv hl hn hr hlen hP hB hok hm hf
end Go.Proofs.YtlbjbkhcnafhcaaGreat.SN
