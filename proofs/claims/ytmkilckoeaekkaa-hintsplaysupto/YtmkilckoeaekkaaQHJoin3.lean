/-
  What Join and Clone of package hints do.
-/
import Derived.Test.YtmkilckoeaekkaaQHJoin2
namespace Go.Proofs.Ytmkilckoeaekkaa
open Go.RowKit Go.Sort Go.Maps Go.Shelf

set_option maxRecDepth 100000 in
set_option maxHeartbeats 4000000 in
theorem joinX_some {B Bo M Mo : Nat} {w : World} {b bo mO : Nat} {x o : Ix} {mo : Option Nat} {f c fo co : ByteArray → Nat} {N No : Nat} (hx : Hk B w b mo f c N x) (ho : Hk Bo w bo (some mO) fo co No o) (hN : N ≤ M) (hc : ∀ n, x.seen n = true → c n ≤ M) (hNo : No ≤ Mo)
    (hco : ∀ n, o.seen n = true → co n ≤ Mo) (hne : ∀ k, Th b mo f x k → ¬ Th bo (some mO) fo o k) (hB : B ≤ w.heap.size) (hM : M + Mo + 1 < maxLen) :
    Calls Try.prog 11 #[dp b, dp bo] w fun e w' => e = .returned (.tuple #[]) ∧ ∃ T', Hx B (M + Mo) w' b (x.join o) T' ∧ (∀ k, T' k → Th b mo f x k ∨ w.heap.size ≤ k) ∧ Kp (Th b mo f x) w w' := by
  have HX := hid hx
  have HO := hid ho
  have HN := hid hN
  have HC := hid hc
  have HNo := hid hNo
  have HCo := hid hco
  have HNe := hid hne
  have HB := hid hB
  have HM := hid hM
  have k0 : ∀ o, w.cell? ⟨bo, o, none⟩ = #[mp mO][o]? := ho.cell
  obtain ⟨Do, hDo, hAo⟩ := ho.map mO rfl
  have HDo := hid hDo
  have HAo := hid hAo
  have hbne : b ≠ bo := fun e => hne b (.inl rfl) (.inl e)
  have q3 := eqlP (fun e => hbne e.symm) ho.blk hx.blk
  have HLo := hid ho.T_lt
  have HTb := hid hx.T_lt
  have hsl := hDo.size_le
  have HSl : Hid (Maps.size Do ≤ Mo) := Nat.le_trans hsl hNo
  generalize hT : Th b mo f x = T at *
  have HT := hid hT
  clear hx ho hN hc hNo hco hne hB hM hDo hAo hbne hsl hT
  go_enter Try.func11, Try.ntmps11
  go_wp2_with (first
    | (at_range; refine wpList_range_own _ rfl _ 66 rfl 9 70 law9 Try.underlying66 _ mO No Do rfl HDo.out ?_; intro w0 hrg0 hg0 hs0; have HRg0 := hid hrg0; have HG0 := hid hg0; clear hrg0 hg0))
  go_frame
  go_loopw [4] (fun _ wr => ∃ (lf : Lit → Bool) (cnt : Nat) (mo' : Option Nat) (f' c' : ByteArray → Nat) (N' : Nat), Hid (wr.ranges Try.prog 9 mElem mO w.heap.size No Do lf cnt) ∧ Hid (cnt ≤ Maps.size Do) ∧
      Hid (∀ s, lf (kl s) = true → o.seen s = true) ∧ Hid (Jo B M Mo w T b w.heap.size x o (Maps.size Do) cnt lf wr mo' f' c' N'))
    (fun _ wr => wr.rangeLeft mO w.heap.size)
  case atStart =>
    refine ⟨_, _, mo, f, c, N, HRg0, Nat.le_refl _, fun s hs => ?_, ?_⟩
    · rw [(HAo.out s).1] at hs; exact hs
    · show Jo _ _ _ _ _ _ _ _ _ _ _ _ _ _ _ _ _
      rw [← HT.out]
      exact Jo.start HX.out HN.out HC.out (fun n => (HAo.out n).1) HO.out.out HG0.out
  case round =>
    obtain ⟨lf, cnt, mo', f', c', N', HR, HCs, HIn, HJ⟩ := hrel
    clear HRg0 HG0 HX
    obtain ⟨Wo, hWo⟩ : ∃ W, W = wr := ⟨wr, rfl⟩
    subst hWo
    go_wp2_with (first
      | (at_next; refine next_name _ rfl _ rfl mO w.heap.size No Do lf cnt o fo rfl HR.out HAo.out HIn.out ?_ ?_))
    · intro hl0
      go_wp2
      go_returns
      exact ⟨rfl, HJ.out.fin rfl HSl.out hl0⟩
    · intro s w1 cnt1 hos hsz hls hrg1 hlt hg1 hs1 hen
      have HOs := hid hos
      have HSz := hid hsz
      have HLs := hid hls
      have HRg1 := hid hrg1
      have HLt := hid hlt
      have HG1 := hid hg1
      have hs1' : w1.heap.size = Wo.heap.size := hs1
      have HS1 := hid hs1'
      clear hos hsz hls hrg1 hlt hg1 hs1 hs1'
      obtain ⟨hfb, Di, hDi, hAi⟩ := HO.out.inn s HOs.out
      have HAi := hid hAi
      have HDi := hid hDi
      have HnT : Hid (¬ T (fo s)) := fun h => HNe.out _ h (.inr (.inr ⟨s, HOs.out, rfl⟩))
      have HnM : Hid (¬ T mO) := fun h => HNe.out _ h (.inr (.inl rfl))
      clear hAi hDi hfb
      go_wp2_with (first
        | (go_at_call 23; refine (see_any (s := s) (HJ.out.hk.kp (T := fun k => k = w.heap.size) (Kp.grown HG1.out (fun k e => by cases e; rfl)) (fun k ht e => by obtain ⟨a1, a2, a3, a4, hit⟩ := iter_blk HR.out; exact HJ.out.hk.not_iter hit (e ▸ ht))) HSz.out (by have := HJ.out.most; have := HM.out; have := HSl.out; omega) (by have := HB.out; have := HJ.out.kp.size; have := HS1.out; omega)).mono ?_; rintro e w2 ⟨m2, f2, c2, N2, hp⟩; obtain ⟨rfl, -⟩ : e = .returned (mp (f2 s)) ∧ True := ⟨hp.ret, trivial⟩; have HP := hid hp; have HK2 := hid (HJ.out.kp1 rfl HG1.out hp).2; clear hp)
        | (at_range; refine wpList_range_own _ rfl _ 70 rfl 9 49 law9 Try.underlying70 _ (fo s) (co s) Di rfl (own_kp HDi.out HK2.out HnT.out) ?_; intro w3 hrg3 hg3 hs3; have HRg3 := hid hrg3; have HG3 := hid hg3; have HS3 := hid hs3; clear hrg3 hg3 hs3))
      go_frame
      have hrl : w.heap.size < Wo.heap.size := HR.out.lt
      have HRl := hid hrl
      have HZ1 := hid HP.out.kp.size
      have HFs : Hid (f2 s < w2.heap.size ∧ (T (f2 s) ∨ w.heap.size < f2 s)) := by
        refine ⟨(HP.out.hk.inn s (by simp [Ix.see])).2.lt, ?_⟩
        rcases HP.out.gr (f2 s) (.inr (.inr ⟨s, by simp [Ix.see], rfl⟩)) with h1 | h1
        · exact HJ.out.inT _ h1
        · exact .inr (by have := HS1.out; omega)
      have HLf : Hid (fo s < w.heap.size ∧ mO < w.heap.size) := ⟨HLo.out _ (.inr (.inr ⟨s, HOs.out, rfl⟩)), HLo.out _ (.inr (.inl rfl))⟩
      have HN1 : Hid (fo s ≠ f2 s) := fun e => by
        rcases HFs.out.2 with h1 | h1
        · exact HnT.out (e ▸ h1)
        · have := HLf.out.1; omega
      have HN2 : Hid (mO ≠ f2 s) := fun e => by
        rcases HFs.out.2 with h1 | h1
        · exact HnM.out (e ▸ h1)
        · have := HLf.out.2; omega
      have HN3 : Hid (w.heap.size ≠ f2 s) := fun e => by
        rcases HFs.out.2 with h1 | h1
        · have := HTb.out _ h1; omega
        · omega
      have HF0 : Hid (Fm w2 (f2 s) M (x.bits s)) := by
        have h0 := (HP.out.hk.inn s (by simp [Ix.see])).2
        have e0 : ((joinL x o lf).see s).bits s = x.bits s := joinL_bits HLs.out
        rw [e0] at h0
        refine h0.mono ?_
        cases hss : (joinL x o lf).seen s with
        | true =>
          rw [(HP.out.cs s hss).1]
          have := HJ.out.caps s hss
          rwa [if_pos HLs.out] at this
        | false => rw [(HP.out.new hss).1]; exact Nat.zero_le _
      clear hrl
      go_loopw [7] (fun _ wi => ∃ (li : Lit → Bool) (cni : Nat), Hid (wi.ranges Try.prog 9 bElem (fo s) w2.heap.size (co s) Di li cni) ∧ Hid (cni ≤ Maps.size Di) ∧
          Hid (Fm wi (f2 s) (M + (Maps.size Di - cni)) (joinF (x.bits s) (o.bits s) li)) ∧ Hid (Kp (fun k => k = f2 s) w2 wi))
        (fun _ wi => wi.rangeLeft (fo s) w2.heap.size)
      case atStart =>
        have k3 : Kp (fun k => k = f2 s) w2 w3 := (Kp.grown HG3.out (T := fun _ => False) (fun k e => by cases e)).imp (fun _ _ e => e.elim)
        refine ⟨_, _, HRg3, Nat.le_refl _, ?_, k3⟩
        show Fm _ _ _ _
        rw [joinF_start (fun t ht => agb_has HAi.out ht)]
        exact (HF0.out.kp (T := fun _ => False) (Kp.grown HG3.out (fun k e => by cases e)) id).mono (by omega)
      case round =>
        obtain ⟨li, cni, HRi, HCi, HFi, HKi⟩ := hrel
        clear HRg3 HG3
        go_wp2_with (first
          | (at_next; refine next_field _ rfl _ rfl (fo s) w2.heap.size (co s) Di li cni (o.bits s) rfl HRi.out HAi.out ?_ ?_))
        · intro hl0
          have HRx : Hid (wr.ranges Try.prog 9 mElem mO w.heap.size No Do (fun z => lf z && !z.sameKey (kl s)) cnt1) := by
            have h1 : ∀ k, k = b ∨ mo' = some k → T k ∨ w.heap.size < k := fun k e => HJ.out.inT k (e.elim .inl (fun e => .inr (.inl e)))
            refine ranges_kp (ranges_kp HRg1.out HP.out.kp (fun e => ?_) (fun e => ?_)) HKi.out HN2.out HN3.out
            · rcases h1 _ e with h | h
              · exact HnM.out h
              · have := HLf.out.2; omega
            · rcases h1 _ e with h | h
              · have := HTb.out _ h; omega
              · omega
          have HL0 := hid hl0
          clear hl0
          go_wp2
          go_roundw
          case rel =>
            have hsd : Maps.size Di ≤ co s := HDi.out.size_le
            have hj := HJ.out.step rfl HG1.out HP.out HFi.out (by have := HCo.out s HOs.out; omega) HKi.out HL0.out HOs.out HLt.out HCs.out HRl.out
            refine ⟨_, cnt1, _, _, _, _, HRx, ?_, fun z hz => HIn.out z ?_, hj⟩
            · have := HLt.out; have := HCs.out; exact (by omega : cnt1 ≤ Maps.size Do)
            · simp only [Bool.and_eq_true] at hz; exact hz.1
          case measure => rw [HRx.out.left_eq, HR.out.left_eq]; exact HLt.out
        · intro t F w4 cni1 hF htz hlt hrg4 hlt4 hg4 hs4 hen4
          have HF4 := hid hF
          have HTz := hid htz
          have HLt4 := hid hlt
          have HRg4 := hid hrg4
          have HLc := hid hlt4
          have HG4 := hid hg4
          have hs4' : w4.heap.size = wr.heap.size := hs4
          have HS4 := hid hs4'
          have HK4 : Hid (Kp (fun k => k = w2.heap.size) wr w4) := Kp.grown hg4 (fun k e => by cases e; rfl)
          have HF5 : Hid (Fm w4 (f2 s) (M + (Maps.size Di - cni)) (joinF (x.bits s) (o.bits s) li)) := HFi.out.kp HK4.out (by have := HFs.out.1; omega)
          clear hF htz hlt hrg4 hlt4 hg4 hs4 hs4'
          go_wp2_with (first
            | (go_at_call 27; refine (jn_any (HF5.out.kp (T := fun _ => False) (Kp.alloc _ _ _) id) (by have := HM.out; have := HDi.out.size_le; have := HCo.out s HOs.out; omega) HTz.out F).mono ?_; rintro e w6 ⟨rfl, hm6, hk6⟩; have HM6 := hid hm6; have HK6 := hid hk6; clear hm6 hk6))
          have HRz : Hid (w6.ranges Try.prog 9 bElem (fo s) w2.heap.size (co s) Di (fun z => li z && !z.sameKey (kl t)) cni1) := ranges_kp (ranges_kp (T := fun _ => False) HRg4.out (Kp.alloc _ _ _) id id) HK6.out HN1.out (by have := HFs.out.1; omega)
          go_roundw
          case rel =>
            refine ⟨_, cni1, HRz, ?_, ?_, ?_⟩
            · have := HLc.out; have := HCi.out; exact (by omega : cni1 ≤ Maps.size Di)
            · show Fm _ _ _ _
              rw [← joinF_step HLt4.out HF4.out]
              exact HM6.out.mono (by have := HLc.out; have := HCi.out; omega)
            · exact ((HKi.out.trans' HK4.out (fun i hi e => by omega)).trans (Kp.alloc _ _ _)).trans HK6.out
          case measure => rw [HRz.out.left_eq, HRi.out.left_eq]; exact HLc.out
end Go.Proofs.Ytmkilckoeaekkaa
