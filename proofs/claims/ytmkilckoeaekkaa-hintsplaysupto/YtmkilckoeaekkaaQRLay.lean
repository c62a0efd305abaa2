/-
  What the reference's Lay does.
-/
import Derived.Test.YtmkilckoeaekkaaQRApp
import Derived.Test.YtmkilckoeaekkaaQRBits
namespace Go.Proofs.Ytmkilckoeaekkaa
open Go.RowKit Go.Sort Go.Maps Go.Shelf

/- An entry's fingerprint is set. -/
def setE (l : List En) (k : Nat) (F : F256) : List En := match l[k]? with
  | some e => l.set k ⟨e.nm, e.fd, F⟩
  | none => l
theorem layE_at {n f : ByteArray} {b : F256} : ∀ {l : List En} {k : Nat} {e : En}, l[k]? = some e → isE n f e = true → (∀ (j : Nat) e', j < k → l[j]? = some e' → isE n f e' = false) → layE n f b l = l.set k ⟨e.nm, e.fd, e.b ||| b⟩
  | [], k, e, h, _, _ => by simp at h
  | a :: r, 0, e, h, h1, _ => by simp at h; subst h; rw [layE, if_pos h1]; rfl
  | a :: r, k + 1, e, h, h1, h2 => by
    rw [layE, if_neg (by rw [h2 0 a (by omega) rfl]; simp), layE_at (by simpa using h) h1 (fun j e' hj he => h2 (j + 1) e' (by omega) (by simpa using he))]
    rfl
theorem layE_new {n f : ByteArray} {b : F256} : ∀ {l : List En}, (∀ (j : Nat) e', l[j]? = some e' → isE n f e' = false) → layE n f b l = l ++ [⟨n, f, b⟩]
  | [], _ => rfl
  | a :: r, h => by
    rw [layE, if_neg (by rw [h 0 a rfl]; simp), layE_new (fun j e' he => h (j + 1) e' (by simpa using he))]
    rfl
/- An entry's four words are written. -/
theorem flat_set (l : List En) {k : Nat} {e : En} (he : l[k]? = some e) (F : F256) : (l.set k ⟨e.nm, e.fd, F⟩).flatMap En.cells = ((((l.flatMap En.cells).set (k * 6 + 2) (.int .u64 (u (fw F 0)))).set (k * 6 + 3) (.int .u64 (u (fw F 1)))).set (k * 6 + 4) (.int .u64 (u (fw F 2)))).set (k * 6 + 5) (.int .u64 (u (fw F 3))) := by
  induction l generalizing k with
  | nil => simp at he
  | cons a r ih =>
    cases k with
    | zero =>
      simp at he; subst he
      simp [En.cells]
    | succ k =>
      have := ih (k := k) (by simpa using he)
      have e6 : (k + 1) * 6 = 6 + k * 6 := by omega
      rw [List.set_cons_succ, List.flatMap_cons, List.flatMap_cons, this, e6]
      have ha : (En.cells a).length = 6 := rfl
      rw [List.set_append_right _ _ (by rw [ha]; omega), List.set_append_right _ _ (by rw [ha]; omega), List.set_append_right _ _ (by rw [ha]; omega), List.set_append_right _ _ (by rw [ha]; omega)]
      rw [ha]
      congr 5 <;> omega
theorem own_put {B : Nat} {w : World} {sv : Value} {l : List En} {g : Nat} (h : Own En.cells 6 79 B w sv l) (hg : sv.ownBlock = some g) {k : Nat} {e : En} (he : l[k]? = some e) (F : F256) :
    Own En.cells 6 79 B ((((w.setCell ⟨g, k * 6 + 2, none⟩ (.int .u64 (u (fw F 0)))).setCell ⟨g, k * 6 + 3, none⟩ (.int .u64 (u (fw F 1)))).setCell ⟨g, k * 6 + 4, none⟩ (.int .u64 (u (fw F 2)))).setCell ⟨g, k * 6 + 5, none⟩ (.int .u64 (u (fw F 3)))) sv (l.set k ⟨e.nm, e.fd, F⟩) := by
  have hkl := (List.getElem?_eq_some_iff.1 he).1
  refine ⟨?_, ?_⟩
  · rw [flat_length en_len]
  rcases h.2 with ⟨hv, h0⟩ | ⟨g', cap, cur, hv, hg', hblk, hc, hm, hcs, ht⟩
  · rw [hv] at hg; cases hg
  · have : g' = g := by rw [hv] at hg; cases hg; rfl
    subst this
    refine .inr ⟨g', cap, _, by rw [hv, List.length_set], hg', block_set (block_set (block_set (block_set hblk _ _) _ _) _ _) _ _, by rw [List.length_set]; exact hc, hm, by simp [hcs], ?_⟩
    rw [List.length_set, flat_set l he F, ← ht]
    simp only [Array.toList_setIfInBounds, List.take_set]
theorem s4cell {w2 : World} {b o g a1 a2 a3 a4 : Nat} {v1 v2 v3 v4 : Value} (h : b ≠ g) : ((((w2.setCell ⟨g, a1, none⟩ v1).setCell ⟨g, a2, none⟩ v2).setCell ⟨g, a3, none⟩ v3).setCell ⟨g, a4, none⟩ v4).cell? ⟨b, o, none⟩ = w2.cell? ⟨b, o, none⟩ :=
  World.cell?_of_block (a := ⟨b, o, none⟩) ((Below.heap_setCell _ _ _ _ h).trans ((Below.heap_setCell _ _ _ _ h).trans ((Below.heap_setCell _ _ _ _ h).trans (Below.heap_setCell _ _ _ _ h))))
theorem enters32 : ∀ args w, (callFunc 32 args).run Try.prog w = .ok (.enter 32 args) w := enters_of Try.func32 (by kernel_rfl) rfl
abbrev S5 (b qb : Nat) (sv : Value) (F : F256) (W : World) : Prop := W.cell? ⟨b, 0, none⟩ = some sv ∧ ∀ o, W.cell? ⟨qb, o, none⟩ = (c4 F)[o]?
abbrev S6 (qb : Nat) (F : F256) (W : World) : Prop := ∀ o, W.cell? ⟨qb, o, none⟩ = (c4 F)[o]?
/- What Lay leaves. -/
def LayP (B : Nat) (w : World) (b : Nat) (sv : Value) (l : List En) (w' : World) : Prop := ∃ sv', Rk B w' b sv' l ∧ (∀ k, Tr b sv' k → Tr b sv k ∨ w.heap.size ≤ k) ∧ Kp (Tr b sv) w w'
theorem lay_put {B : Nat} {w w2 : World} {b g : Nat} {sv : Value} {l : List En} {k : Nat} {e : En} {F : F256} (h : Rk B w b sv l) (hb : Below w.heap.size w w2) (hg : sv.ownBlock = some g) (he : l[k]? = some e) :
    LayP B w b sv (l.set k ⟨e.nm, e.fd, F⟩) ((((w2.setCell ⟨g, k * 6 + 2, none⟩ (.int .u64 (u (fw F 0)))).setCell ⟨g, k * 6 + 3, none⟩ (.int .u64 (u (fw F 1)))).setCell ⟨g, k * 6 + 4, none⟩ (.int .u64 (u (fw F 2)))).setCell ⟨g, k * 6 + 5, none⟩ (.int .u64 (u (fw F 3)))) := by
  have h2 := h.on hb
  have hne : b ≠ g := fun e => by obtain ⟨c, fz, hc⟩ := h.own.kind hg; rw [← e, h.blk] at hc; cases hc
  have hk : Kp (fun k => k = g) w2 ((((w2.setCell ⟨g, k * 6 + 2, none⟩ (.int .u64 (u (fw F 0)))).setCell ⟨g, k * 6 + 3, none⟩ (.int .u64 (u (fw F 1)))).setCell ⟨g, k * 6 + 4, none⟩ (.int .u64 (u (fw F 2)))).setCell ⟨g, k * 6 + 5, none⟩ (.int .u64 (u (fw F 3)))) :=
    (((Kp.set (T := fun k => k = g) rfl _).trans (Kp.set (T := fun k => k = g) rfl _)).trans (Kp.set (T := fun k => k = g) rfl _)).trans (Kp.set (T := fun k => k = g) rfl _)
  exact ⟨sv, ⟨h.bB, hk.blk h2.blk hne, own_put h2.own hg he F⟩, fun k hk => .inl hk, (Kp.of hb).trans' hk (fun i _ e => .inr (by rw [e]; exact hg))⟩
theorem lay_app {B : Nat} {w W w3 : World} {b : Nat} {sv v' : Value} {l : List En} {x : En} (h : Rk B w b sv l) (hb : Below w.heap.size w W) (hown : Own En.cells 6 79 B w3 v' (l ++ [x])) (hgr : W.grownBy w3 sv.ownBlock) (hat : At W sv v') :
    w3.heap[b]? = some (.cells #[sv] 33) ∧ LayP B w b sv (l ++ [x]) (w3.setCell ⟨b, 0, none⟩ v') := by
  have h2 := h.on hb
  have hne : ∀ g, sv.ownBlock = some g → b ≠ g := fun g hg e => by obtain ⟨c, fz, hc⟩ := h.own.kind hg; rw [← e, h.blk] at hc; cases hc
  have k3 : Kp (fun k => sv.ownBlock = some k) W w3 := Kp.grown hgr (fun k e => e)
  have c1 := k3.blk h2.blk (fun e => hne _ e rfl)
  have ks : Kp (fun k => k = b) w3 (w3.setCell ⟨b, 0, none⟩ v') := Kp.set (T := fun k => k = b) rfl _
  have ho := hown.kp ks (fun k e e2 => by subst e2; obtain ⟨c, fz, hc⟩ := hown.kind e; rw [c1] at hc; cases hc)
  refine ⟨c1, v', ⟨h.bB, block_set c1 0 v', ho⟩, ?_, ((Kp.of hb).trans' k3 (fun i _ e => .inr e)).trans' ks (fun i _ e => .inl e)⟩
  rintro k (rfl | hk)
  · exact .inl (.inl rfl)
  · rcases hat k hk with h1 | h1
    · exact .inl (.inr h1)
    · exact .inr (Nat.le_trans hb.size h1)
set_option maxRecDepth 100000 in
set_option maxHeartbeats 4000000 in
theorem lay_any {B : Nat} {w : World} {b : Nat} {sv : Value} {l : List En} (h : Rk B w b sv l) (hB : B ≤ w.heap.size) (n f : ByteArray) (F : F256) (hl : l.length ≤ 1000000000000) : Calls Try.prog 25 #[dp b, .string n, .string f, B4 F] w fun e w' => e = .returned (.tuple #[]) ∧ LayP B w b sv (layE n f F l) w' := by
  obtain ⟨p, c, rfl⟩ := h.own.form
  have HK0 := hid h
  have HBs := hid hB
  have HB : Hid (Below w.heap.size w (w.alloc (.cells (c4 F) 49 (0, 0)))) := (Below.refl _ _).alloc (Nat.le_refl _) _
  have HK := hid (h.on HB.out)
  have KF := hid (Fb.made w F)
  have k0 := HK.out.cell
  generalize hW : w.alloc (.cells (c4 F) 49 (0, 0)) = w1 at *
  have HW := hid hW
  clear h hW hB
  generalize hln : l.length = ln at *
  have HLn := hid hln
  clear hln
  have cF := KF.out.cells
  have lF := KF.out.lt
  have HLq := hid lF
  have HLb := hid (lt_of_block HK.out.blk)
  go_enter Try.func25, Try.ntmps25
  go_upto_region 1 with fail
  rw [HW.out]
  go_wp2_with fail
  go_loopw [8] (fun i wr => ∃ k : Nat, k ≤ ln ∧ i = .int .i64 k ∧ wr = w1 ∧ Hid (∀ (j : Nat) e, j < k → l[j]? = some e → isE n f e = false)) (fun i _ => ln - (intOf i).toNat)
  case atStart => exact ⟨0, by omega, rfl, rfl, fun j e hj => by omega⟩
  case round =>
    obtain ⟨k, hk, rfl, hwr, HNo⟩ := hrel
    replace hwr := hwr.symm
    subst hwr
    by_cases hlt : k < ln
    · obtain ⟨e, he⟩ : ∃ e, l[k]? = some e := ⟨l[k]'(by rw [HLn.out]; omega), List.getElem?_eq_getElem _⟩
      obtain ⟨g, rfl, hc, -, cs, hgb⟩ := HK.out.at he
      have HGb := hid hgb
      have HLg := hid (lt_of_block hgb)
      obtain ⟨d0, d1, d2, d3, d4, d5⟩ := hc
      have hbq := bytes_beq e.nm n
      have hbf := bytes_beq e.fd f
      have HE := hid he
      clear he hgb
      by_cases hen : e.nm = n
      · have HEn := hid hen
        rw [decide_eq_true hen] at hbq
        clear hen
        by_cases hef : e.fd = f
        · have HEf := hid hef
          rw [decide_eq_true hef] at hbf
          clear hef
          have HLy := hid (layE_at (b := F) HE.out (by simp [isE, HEn.out, HEf.out]) HNo.out)
          obtain ⟨J, hJ⟩ : ∃ J, e.b ||| F = J := ⟨_, rfl⟩
          rw [hJ] at HLy
          have HJ := hid hJ
          clear hJ
          have i1 : (0 : Int) ≤ (k : Int) := by omega
          have i2 : (k : Int) < (ln : Int) := by omega
          go_upto_region 5 with fail
          have hS0 : S5 b w.heap.size (.slice (some ⟨g, 0, none⟩) ln c) F w1 := ⟨k0 0, cF⟩
          refine wp_region_held_drew (S := S5 b w.heap.size (.slice (some ⟨g, 0, none⟩) ln c) F) (by kernel_rfl) hS0 (fun hT => ?_)
          refine wpAnyH_take (i := 0) (v := ?_) rfl (by kernel_rfl) (by kernel_rfl) (by kernel_rfl) (fun _ _ _ h => h) (Or.inl ⟨by rfl, ?_⟩) hT ?_
          rotate_left
          · intro w hSw
            go_simp
            try (with_reducible rfl)
          try go_frame
          refine wpAnyH_take (i := 1) (v := ?_) rfl (by kernel_rfl) (by kernel_rfl) (by kernel_rfl) (fun _ _ _ h => h) (Or.inl ⟨by rfl, ?_⟩) hT ?_
          rotate_left
          · intro w hSw
            go_simp
            try (with_reducible rfl)
          try go_frame
          refine wpAnyH_take (i := 2) (v := ?_) rfl (by kernel_rfl) (by kernel_rfl) (by kernel_rfl) (fun _ _ _ h => h) (Or.inl ⟨by rfl, ?_⟩) hT ?_
          rotate_left
          · intro w hSw
            go_simp
            try (with_reducible rfl)
          try go_frame
          refine wpAnyH_take (i := 3) (v := ?_) rfl (by kernel_rfl) (by kernel_rfl) (by kernel_rfl) (fun _ _ _ h => h) (Or.inl ⟨by rfl, ?_⟩) hT ?_
          rotate_left
          · intro w hSw
            go_simp
            try (with_reducible rfl)
          try go_frame
          refine wpAnyH_take (i := 4) (v := ?_) rfl (by kernel_rfl) (by kernel_rfl) (by kernel_rfl) (fun _ _ _ h => h) (Or.inl ⟨by rfl, ?_⟩) hT ?_
          rotate_left
          · intro w hSw
            go_simp
            try (with_reducible rfl)
          try go_frame
          refine wpAnyH_take (i := 5) (v := ?_) rfl (by kernel_rfl) (by kernel_rfl) (by kernel_rfl) (fun _ _ _ h => h) (Or.inl ⟨by rfl, ?_⟩) hT ?_
          rotate_left
          · intro w hSw
            go_simp
            try (with_reducible rfl)
          try go_frame
          refine wpAnyH_take (i := 6) (v := ?_) rfl (by kernel_rfl) (by kernel_rfl) (by kernel_rfl) (fun _ _ _ h => h) (Or.inl ⟨by rfl, ?_⟩) hT ?_
          rotate_left
          · intro w hSw
            go_simp
            try (with_reducible rfl)
          try go_frame
          refine wpAnyH_take (i := 7) (v := ?_) rfl (by kernel_rfl) (by kernel_rfl) (by kernel_rfl) (fun _ _ _ h => h) (Or.inl ⟨by rfl, ?_⟩) hT ?_
          rotate_left
          · intro w hSw
            go_simp
            try (with_reducible rfl)
          try go_frame
          refine wpAnyH_take (i := 8) (v := ?_) rfl (by kernel_rfl) (by kernel_rfl) (by kernel_rfl) (fun _ _ _ h => h) (Or.inl ⟨by rfl, ?_⟩) hT ?_
          rotate_left
          · intro w hSw
            go_simp
            try (with_reducible rfl)
          try go_frame
          refine wpAnyH_take (i := 9) (v := ?_) rfl (by kernel_rfl) (by kernel_rfl) (by kernel_rfl) (fun _ _ _ h => h) (Or.inl ⟨by rfl, ?_⟩) hT ?_
          rotate_left
          · intro w hSw
            go_simp
            try (with_reducible rfl)
          try go_frame
          refine wpAnyH_take (i := 10) (v := ?_) rfl (by kernel_rfl) (by kernel_rfl) (by kernel_rfl) (fun _ _ _ h => h) (Or.inl ⟨by rfl, ?_⟩) hT ?_
          rotate_left
          · intro w hSw
            go_simp
            try (with_reducible rfl)
          try go_frame
          refine wpAnyH_take (i := 11) (v := ?_) rfl (by kernel_rfl) (by kernel_rfl) (by kernel_rfl) (fun _ _ _ h => h) (Or.inl ⟨by rfl, ?_⟩) hT ?_
          rotate_left
          · intro w hSw
            go_simp
            try (with_reducible rfl)
          try go_frame
          refine wpAnyH_take (i := 13) (v := ?_) rfl (by kernel_rfl) (by kernel_rfl) (by kernel_rfl) (fun _ _ _ h => h) (Or.inl ⟨by rfl, ?_⟩) hT ?_
          rotate_left
          · intro w hSw
            go_simp
            try (with_reducible rfl)
          try go_frame
          refine wpAnyH_ready (rs := [12]) (by kernel_rfl) (by simp) ?_
          refine AllReadyH.cons rfl (fun K hK => ?_) AllReadyH.nil
          go_simp
          refine hK.out _ _ hT (fun hT => ?_)
          clear hK
          try go_frame
          refine wpAnyH_ready (rs := [14]) (by kernel_rfl) (by simp) ?_
          refine AllReadyH.cons rfl (fun K hK => ?_) AllReadyH.nil
          refine step_call2 (v := B4 e.b) (v2 := B4 F) rfl (.tmp 52) (.tmp 53) 49 49 rfl (by simp [Act.eval]) (by simp [Act.eval]) enters32 ?_
          refine (rjoin_is HJ.out _).mono ?_
          rintro e' w2 ⟨rfl, hb2⟩
          refine ⟨_, rfl, ?_⟩
          have HB2 : Hid (Below w1.heap.size w1 w2) := (Below.refl _ _).drew.trans hb2
          have hS2 : S5 b w.heap.size (.slice (some ⟨g, 0, none⟩) ln c) F w2 := ⟨(HB2.out.cell (p := ⟨b, 0, none⟩) HLb.out).trans hS0.1, fun o => (HB2.out.cell (p := ⟨w.heap.size, o, none⟩) HLq.out).trans (hS0.2 o)⟩
          have hG2 := block_on HGb.out HB2.out
          have f2 := block_frozen hG2
          have x2 := (HB2.out.cell (p := ⟨g, k * 6 + 2, none⟩) HLg.out).trans d2
          have x3 := (HB2.out.cell (p := ⟨g, k * 6 + 3, none⟩) HLg.out).trans d3
          have x4 := (HB2.out.cell (p := ⟨g, k * 6 + 4, none⟩) HLg.out).trans d4
          have x5 := (HB2.out.cell (p := ⟨g, k * 6 + 5, none⟩) HLg.out).trans d5
          clear hb2 d0 d1 d2 d3 d4 d5
          refine hK.out _ _ hS2 (fun hT => ?_)
          clear hK
          try go_frame
          refine wpAnyH_take (i := 15) (v := ?_) rfl (by kernel_rfl) (by kernel_rfl) (by kernel_rfl) (fun _ _ _ h => h) (Or.inl ⟨by rfl, ?_⟩) hT ?_
          rotate_left
          · intro w hSw
            go_simp
            try (with_reducible rfl)
          try go_frame
          refine wpAnyH_take (i := 16) (v := ?_) rfl (by kernel_rfl) (by kernel_rfl) (by kernel_rfl) (fun _ _ _ h => h) (Or.inl ⟨by rfl, ?_⟩) hT ?_
          rotate_left
          · intro w hSw
            go_simp
            try (with_reducible rfl)
          try go_frame
          refine wpAnyH_ready (rs := [17]) (by kernel_rfl) (by simp) ?_
          refine AllReadyH.cons rfl (fun K hK => ?_) AllReadyH.nil
          go_simp
          have hne1 : b ≠ g := fun e1 => by have h1 := HK.out.blk; rw [e1, HGb.out] at h1; cases h1
          have hne2 : w.heap.size ≠ g := fun e1 => by have h1 := KF.out; unfold Fb at h1; rw [e1, HGb.out] at h1; cases h1
          refine hK.out _ _ ⟨(s4cell hne1).trans hS2.1, fun o => (s4cell hne2).trans (hS2.2 o)⟩ (fun _ => ?_)
          refine wpAnyH_done (by kernel_rfl) ?_ _
          clear hK hT hS2 hS0 x2 x3 x4 x5 f2 hG2
          go_wp2
          go_returns
          exact ⟨rfl, by rw [HLy.out]; exact lay_put HK0.out (below_on HB.out HB2.out) rfl HE.out⟩
        · have HEf := hid hef
          rw [decide_eq_false hef] at hbf
          clear hef
          go_wp2
          go_roundw
          case rel =>
            refine ⟨k + 1, by omega, by go_num, by trivial, fun j e' hj hj' => ?_⟩
            by_cases ej : j = k
            · subst ej
              have := HE.out
              rw [hj'] at this; cases this
              simp [isE, HEf.out]
            · exact HNo.out j e' (by omega) hj'
          case measure => simp [intOf]; omega
      · have HEn := hid hen
        rw [decide_eq_false hen] at hbq
        clear hen
        go_wp2
        go_roundw
        case rel =>
          refine ⟨k + 1, by omega, by go_num, by trivial, fun j e' hj hj' => ?_⟩
          by_cases ej : j = k
          · subst ej
            have := HE.out
            rw [hj'] at this; cases this
            simp [isE, HEn.out]
          · exact HNo.out j e' (by omega) hj'
        case measure => simp [intOf]; omega
    · have HLy := hid (layE_new (n := n) (f := f) (b := F) (l := l) (fun j e hj => HNo.out j e (by have := (List.getElem?_eq_some_iff.1 hj).1; have := HLn.out; omega) hj))
      have HNb : Hid (w.heap.size ≠ b) := fun e1 => by have := lt_of_block HK0.out.blk; omega
      go_upto_region 6 with fail
      have hS0 : S6 w.heap.size F w1 := cF
      refine wp_region_held_drew (S := S6 w.heap.size F) (by kernel_rfl) hS0 (fun hT => ?_)
      refine wpAnyH_take (i := 0) (v := ?_) rfl (by kernel_rfl) (by kernel_rfl) (by kernel_rfl) (fun _ _ _ h => h) (Or.inl ⟨by rfl, ?_⟩) hT ?_
      rotate_left
      · intro w hSw
        go_simp
        try (with_reducible rfl)
      try go_frame
      refine wpAnyH_take (i := 1) (v := ?_) rfl (by kernel_rfl) (by kernel_rfl) (by kernel_rfl) (fun _ _ _ h => h) (Or.inl ⟨by rfl, ?_⟩) hT ?_
      rotate_left
      · intro w hSw
        go_simp
        try (with_reducible rfl)
      try go_frame
      refine wpAnyH_take (i := 2) (v := ?_) rfl (by kernel_rfl) (by kernel_rfl) (by kernel_rfl) (fun _ _ _ h => h) (Or.inl ⟨by rfl, ?_⟩) hT ?_
      rotate_left
      · intro w hSw
        go_simp
        try (with_reducible rfl)
      try go_frame
      refine wpAnyH_take (i := 3) (v := ?_) rfl (by kernel_rfl) (by kernel_rfl) (by kernel_rfl) (fun _ _ _ h => h) (Or.inl ⟨by rfl, ?_⟩) hT ?_
      rotate_left
      · intro w hSw
        go_simp
        try (with_reducible rfl)
      try go_frame
      refine wpAnyH_take (i := 5) (v := ?_) rfl (by kernel_rfl) (by kernel_rfl) (by kernel_rfl) (fun _ _ _ h => h) (Or.inl ⟨by rfl, ?_⟩) hT ?_
      rotate_left
      · intro w hSw
        go_simp
        try (with_reducible rfl)
      try go_frame
      refine wpAnyH_take (i := 6) (v := ?_) rfl (by kernel_rfl) (by kernel_rfl) (by kernel_rfl) (fun _ _ _ h => h) (Or.inl ⟨by rfl, ?_⟩) hT ?_
      rotate_left
      · intro w hSw
        go_simp
        try (with_reducible rfl)
      try go_frame
      refine wpAnyH_take (i := 7) (v := ?_) rfl (by kernel_rfl) (by kernel_rfl) (by kernel_rfl) (fun _ _ _ h => h) (Or.inl ⟨by rfl, ?_⟩) hT ?_
      rotate_left
      · intro w hSw
        go_simp
        try (with_reducible rfl)
      try go_frame
      refine wpAnyH_take (i := 8) (v := ?_) rfl (by kernel_rfl) (by kernel_rfl) (by kernel_rfl) (fun _ _ _ h => h) (Or.inl ⟨by rfl, ?_⟩) hT ?_
      rotate_left
      · intro w hSw
        go_simp
        try (with_reducible rfl)
      try go_frame
      have HKc : Hid (Rk B w1.drew b (.slice p ln c) l) := HK.out.on (Below.refl _ _).drew
      have HBw : Hid (Below w.heap.size w w1.drew) := HB.out.drew
      have HLc : Hid (w.heap.size < w1.drew.heap.size) := HLq.out
      generalize w1.drew = W2 at *
      refine wpAnyH_ready (rs := [4, 9]) (by kernel_rfl) (by simp) ?_
      refine AllReadyH.cons rfl (fun K hK => ?_) (AllReadyH.cons rfl (fun K hK => ?_) AllReadyH.nil)
      · have c1 : W2.cell? ⟨b, 0, none⟩ = some (.slice p ln c) := block_cell HKc.out.blk 0
        go_simp
        refine hK.out _ _ hT (fun hT => ?_)
        clear hK c1
        try go_frame
        refine wpAnyH_ready (rs := [9]) (by kernel_rfl) (by simp) ?_
        refine AllReadyH.cons rfl (fun K hK => ?_) AllReadyH.nil
        go_simp
        have HG3 : Hid ((W2.alloc (.cells ([(⟨n, f, F⟩ : En)].flatMap En.cells).toArray 79)).heap[W2.heap.size]? = some (.cells ([(⟨n, f, F⟩ : En)].flatMap En.cells).toArray 79)) := alloc_block _ _
        have HBa : Hid (Below W2.heap.size W2 (W2.alloc (.cells ([(⟨n, f, F⟩ : En)].flatMap En.cells).toArray 79))) := (Below.refl _ _).alloc (Nat.le_refl _) _
        have hTa : S6 w.heap.size F (W2.alloc (.cells ([(⟨n, f, F⟩ : En)].flatMap En.cells).toArray 79)) := fun o => (HBa.out.cell (p := ⟨w.heap.size, o, none⟩) HLc.out).trans (hT o)
        refine hK.out _ _ hTa (fun _ => ?_)
        clear hK hT
        have hT := hTa
        clear hTa
        try go_frame
        replace HKc := hid (HKc.out.on HBa.out)
        replace HBw := hid (below_on HBw.out HBa.out)
        replace HLc := hid (Nat.lt_of_lt_of_le HLc.out HBa.out.size)
        clear HBa
        obtain ⟨W3, hW3⟩ : ∃ V, W2.alloc (.cells ([(⟨n, f, F⟩ : En)].flatMap En.cells).toArray 79) = V := ⟨_, rfl⟩
        obtain ⟨g3, hg3⟩ : ∃ g, W2.heap.size = g := ⟨_, rfl⟩
        rw [hW3] at HG3 hT HKc HBw HLc
        rw [hg3] at HG3
        change wpAnyH _ _ _ _ _ _ _ _ (W2.alloc (.cells ([(⟨n, f, F⟩ : En)].flatMap En.cells).toArray 79))
        rw [hW3, hg3]
        clear hW3 hg3
        refine wpAnyH_ready (rs := [10]) (by kernel_rfl) (by simp) ?_
        refine AllReadyH.cons rfl (fun K hK => ?_) AllReadyH.nil
        refine step_appP (xs := l) (ys := [(⟨n, f, F⟩ : En)]) (v := .slice p ln c) (u := .slice (some ⟨g3, 0, none⟩) 1 1) elem79 en_len (fun y hy => en_one y) rfl (.tmp 61) (.tmp 66) rfl (by simp [Act.eval]) (by simp [Act.eval]) (B := B) HKc.out.own (Own.sl (Own.blk (e := 79) (B := 0) (xs := [(⟨n, f, F⟩ : En)]) en_len (Nat.zero_le _) HG3.out (by unfold maxLen; simp)) en_len) (by simp) (by rw [HLn.out]; simp; omega) (by omega) (Nat.le_trans HBs.out HBw.out.size) ?_
        intro v' w3 hown hgr hat
        obtain ⟨hc1, hlp⟩ := lay_app HK0.out HBw.out hown hgr hat
        have hT3 : S6 w.heap.size F w3 := fun o => (World.cell?_of_block (a := ⟨w.heap.size, o, none⟩) (hgr.block _ HLc.out (fun e1 => by have h1 : w.heap.size < w.heap.size := (HK0.out.own.at e1.symm).2; omega))).trans (hT o)
        obtain ⟨pv, cv, rfl⟩ := hown.form
        have k3 : w3.cell? ⟨b, 0, none⟩ = some (.slice p ln c) := block_cell hc1 0
        have f3 := block_frozen hc1 0
        have HLP := hid hlp
        clear hlp hown hgr hat hT
        refine hK.out _ _ hT3 (fun hT => ?_)
        clear hK
        try go_frame
        refine wpAnyH_take (i := 11) (v := ?_) rfl (by kernel_rfl) (by kernel_rfl) (by kernel_rfl) (fun _ _ _ h => h) (Or.inl ⟨by rfl, ?_⟩) hT ?_
        rotate_left
        · intro w hSw
          go_simp
          try (with_reducible rfl)
        try go_frame
        refine wpAnyH_take (i := 12) (v := ?_) rfl (by kernel_rfl) (by kernel_rfl) (by kernel_rfl) (fun _ _ _ h => h) (Or.inl ⟨by rfl, ?_⟩) hT ?_
        rotate_left
        · intro w hSw
          go_simp
          try (with_reducible rfl)
        try go_frame
        refine wpAnyH_ready (rs := [13]) (by kernel_rfl) (by simp) ?_
        refine AllReadyH.cons rfl (fun K hK => ?_) AllReadyH.nil
        go_simp
        refine hK.out _ _ (fun o => (World.cell?_of_block (a := ⟨w.heap.size, o, none⟩) (Below.heap_setCell _ _ _ _ HNb.out)).trans (hT3 o)) (fun _ => ?_)
        refine wpAnyH_done (by kernel_rfl) ?_ _
        clear hK hT hT3 k3 f3
        go_wp2
        go_returns
        exact ⟨rfl, by rw [HLy.out]; have h9 := HLP.out; rw [List.length_append] at h9; exact h9⟩
      · go_simp
        have HG3 : Hid ((W2.alloc (.cells ([(⟨n, f, F⟩ : En)].flatMap En.cells).toArray 79)).heap[W2.heap.size]? = some (.cells ([(⟨n, f, F⟩ : En)].flatMap En.cells).toArray 79)) := alloc_block _ _
        have HBa : Hid (Below W2.heap.size W2 (W2.alloc (.cells ([(⟨n, f, F⟩ : En)].flatMap En.cells).toArray 79))) := (Below.refl _ _).alloc (Nat.le_refl _) _
        have hTa : S6 w.heap.size F (W2.alloc (.cells ([(⟨n, f, F⟩ : En)].flatMap En.cells).toArray 79)) := fun o => (HBa.out.cell (p := ⟨w.heap.size, o, none⟩) HLc.out).trans (hT o)
        refine hK.out _ _ hTa (fun _ => ?_)
        clear hK hT
        have hT := hTa
        clear hTa
        try go_frame
        replace HKc := hid (HKc.out.on HBa.out)
        replace HBw := hid (below_on HBw.out HBa.out)
        replace HLc := hid (Nat.lt_of_lt_of_le HLc.out HBa.out.size)
        clear HBa
        obtain ⟨W3, hW3⟩ : ∃ V, W2.alloc (.cells ([(⟨n, f, F⟩ : En)].flatMap En.cells).toArray 79) = V := ⟨_, rfl⟩
        obtain ⟨g3, hg3⟩ : ∃ g, W2.heap.size = g := ⟨_, rfl⟩
        rw [hW3] at HG3 hT HKc HBw HLc
        rw [hg3] at HG3
        change wpAnyH _ _ _ _ _ _ _ _ (W2.alloc (.cells ([(⟨n, f, F⟩ : En)].flatMap En.cells).toArray 79))
        rw [hW3, hg3]
        clear hW3 hg3
        refine wpAnyH_ready (rs := [4]) (by kernel_rfl) (by simp) ?_
        refine AllReadyH.cons rfl (fun K hK => ?_) AllReadyH.nil
        have c1 : W3.cell? ⟨b, 0, none⟩ = some (.slice p ln c) := block_cell HKc.out.blk 0
        go_simp
        refine hK.out _ _ hT (fun hT => ?_)
        clear hK c1
        try go_frame
        refine wpAnyH_ready (rs := [10]) (by kernel_rfl) (by simp) ?_
        refine AllReadyH.cons rfl (fun K hK => ?_) AllReadyH.nil
        refine step_appP (xs := l) (ys := [(⟨n, f, F⟩ : En)]) (v := .slice p ln c) (u := .slice (some ⟨g3, 0, none⟩) 1 1) elem79 en_len (fun y hy => en_one y) rfl (.tmp 61) (.tmp 66) rfl (by simp [Act.eval]) (by simp [Act.eval]) (B := B) HKc.out.own (Own.sl (Own.blk (e := 79) (B := 0) (xs := [(⟨n, f, F⟩ : En)]) en_len (Nat.zero_le _) HG3.out (by unfold maxLen; simp)) en_len) (by simp) (by rw [HLn.out]; simp; omega) (by omega) (Nat.le_trans HBs.out HBw.out.size) ?_
        intro v' w3 hown hgr hat
        obtain ⟨hc1, hlp⟩ := lay_app HK0.out HBw.out hown hgr hat
        have hT3 : S6 w.heap.size F w3 := fun o => (World.cell?_of_block (a := ⟨w.heap.size, o, none⟩) (hgr.block _ HLc.out (fun e1 => by have h1 : w.heap.size < w.heap.size := (HK0.out.own.at e1.symm).2; omega))).trans (hT o)
        obtain ⟨pv, cv, rfl⟩ := hown.form
        have k3 : w3.cell? ⟨b, 0, none⟩ = some (.slice p ln c) := block_cell hc1 0
        have f3 := block_frozen hc1 0
        have HLP := hid hlp
        clear hlp hown hgr hat hT
        refine hK.out _ _ hT3 (fun hT => ?_)
        clear hK
        try go_frame
        refine wpAnyH_take (i := 11) (v := ?_) rfl (by kernel_rfl) (by kernel_rfl) (by kernel_rfl) (fun _ _ _ h => h) (Or.inl ⟨by rfl, ?_⟩) hT ?_
        rotate_left
        · intro w hSw
          go_simp
          try (with_reducible rfl)
        try go_frame
        refine wpAnyH_take (i := 12) (v := ?_) rfl (by kernel_rfl) (by kernel_rfl) (by kernel_rfl) (fun _ _ _ h => h) (Or.inl ⟨by rfl, ?_⟩) hT ?_
        rotate_left
        · intro w hSw
          go_simp
          try (with_reducible rfl)
        try go_frame
        refine wpAnyH_ready (rs := [13]) (by kernel_rfl) (by simp) ?_
        refine AllReadyH.cons rfl (fun K hK => ?_) AllReadyH.nil
        go_simp
        refine hK.out _ _ (fun o => (World.cell?_of_block (a := ⟨w.heap.size, o, none⟩) (Below.heap_setCell _ _ _ _ HNb.out)).trans (hT3 o)) (fun _ => ?_)
        refine wpAnyH_done (by kernel_rfl) ?_ _
        clear hK hT hT3 k3 f3
        go_wp2
        go_returns
        exact ⟨rfl, by rw [HLy.out]; have h9 := HLP.out; rw [List.length_append] at h9; exact h9⟩
end Go.Proofs.Ytmkilckoeaekkaa
