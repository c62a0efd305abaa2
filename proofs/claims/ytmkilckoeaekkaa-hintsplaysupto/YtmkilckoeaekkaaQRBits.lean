/-
  What the reference's Bits returns.
-/
import Derived.Test.YtmkilckoeaekkaaQRMem
namespace Go.Proofs.Ytmkilckoeaekkaa
open Go.RowKit Go.Sort Go.Maps Go.Shelf

theorem getE_first {n f : ByteArray} : ∀ {l : List En} {k : Nat} {e : En}, l[k]? = some e → isE n f e = true → (∀ (j : Nat) e', j < k → l[j]? = some e' → isE n f e' = false) → getE l n f = e.b
  | [], k, e, h, _, _ => by simp at h
  | a :: r, 0, e, h, h1, _ => by simp at h; subst h; exact getE_hit h1 r
  | a :: r, k + 1, e, h, h1, h2 => by
    rw [getE_miss (h2 0 a (by omega) rfl) r]
    exact getE_first (by simpa using h) h1 (fun j e' hj he => h2 (j + 1) e' (by omega) (by simpa using he))
theorem getE_none {n f : ByteArray} {l : List En} (h : ∀ (j : Nat) e', l[j]? = some e' → isE n f e' = false) : getE l n f = 0 := by
  refine getE_out (fun e he hh => ?_)
  obtain ⟨j, hj, rfl⟩ := List.getElem_of_mem he
  have := h j _ (List.getElem?_eq_getElem hj)
  simp [isE, hh.1, hh.2] at this
set_option maxRecDepth 100000 in
set_option maxHeartbeats 2000000 in
theorem rbits_any {B : Nat} {w : World} {b : Nat} {sv : Value} {l : List En} (h : Rk B w b sv l) (n f : ByteArray) (hf : f.size ≤ 562949953421312) (hl : l.length ≤ 1000000000000) : Calls Try.prog 17 #[dp b, .string n, .string f] w fun e w' => e = .returned (B4 (getE l n (kf f))) ∧ Below w.heap.size w w' := by
  obtain ⟨p, c, rfl⟩ := h.own.form
  have HB : Hid (Below w.heap.size w (w.alloc (.cells zs 49 (0, 0)))) := (Below.refl _ _).alloc (Nat.le_refl _) _
  have HK := hid (h.on HB.out)
  have KZ := hid (Fb.zero w)
  have k0 := HK.out.cell
  generalize hW : w.alloc (.cells zs 49 (0, 0)) = w1 at *
  have HW := hid hW
  generalize hr : getE l n (kf f) = R
  have HR := hid hr
  clear h hr hW
  generalize hln : l.length = ln at *
  have HLn := hid hln
  clear hln
  have c0 := KZ.out.cells
  have f0 := KZ.out.frozen
  have l0 := KZ.out.lt
  have hfI : (f.size : Int) ≤ 562949953421312 := by omega
  clear hf
  have hkf : (⟨#[107]⟩ : ByteArray) ++ f = kf f := rfl
  go_enter Try.func17, Try.ntmps17
  go_upto_region 1 with fail
  rw [HW.out]
  go_wp2_with fail
  go_loopw [7] (fun i wr => ∃ k : Nat, k ≤ ln ∧ i = .int .i64 k ∧ wr = w1 ∧ Hid (∀ (j : Nat) e, j < k → l[j]? = some e → isE n (kf f) e = false)) (fun i _ => ln - (intOf i).toNat)
  case atStart => exact ⟨0, by omega, rfl, rfl, fun j e hj => by omega⟩
  case round =>
    obtain ⟨k, hk, rfl, rfl, HNo⟩ := hrel
    by_cases hlt : k < ln
    · obtain ⟨e, he⟩ : ∃ e, l[k]? = some e := ⟨l[k]'(by rw [HLn.out]; omega), List.getElem?_eq_getElem _⟩
      obtain ⟨g, rfl, hc, _, _⟩ := HK.out.at he
      obtain ⟨d0, d1, d2, d3, d4, d5⟩ := hc
      have hbq := bytes_beq e.nm n
      have hbf := bytes_beq e.fd (kf f)
      have HE := hid he
      clear he
      by_cases hen : e.nm = n
      · have HEn := hid hen
        rw [decide_eq_true hen] at hbq
        clear hen
        by_cases hef : e.fd = kf f
        · have HEf := hid hef
          rw [decide_eq_true hef] at hbf
          clear hef
          generalize hG : e.b = G at *
          have HG := hid hG
          clear hG
          go_wp2
          refine bodyPost_ret (v := B4 G) (by simp [results, Try.results17, go_sem, c0]) rfl ⟨?_, ?_⟩
          · rw [← HR.out, ← HG.out, getE_first HE.out (by simp [isE, HEn.out, HEf.out]) HNo.out]
          · have hbw := HB.out
            clear c0 f0
            go_grown
        · have HEf := hid hef
          rw [decide_eq_false hef] at hbf
          clear hef
          go_wp2
          go_roundw
          case rel =>
            refine ⟨k + 1, by omega, by go_num, by trivial, fun j e' hj hj' => ?_⟩
            by_cases ej : j = k
            · subst ej
              have := HE.out
              rw [hj'] at this; cases this
              simp [isE, HEf.out]
            · exact HNo.out j e' (by omega) hj'
          case measure => simp [intOf]; omega
      · have HEn := hid hen
        rw [decide_eq_false hen] at hbq
        clear hen
        go_wp2
        go_roundw
        case rel =>
          refine ⟨k + 1, by omega, by go_num, by trivial, fun j e' hj hj' => ?_⟩
          by_cases ej : j = k
          · subst ej
            have := HE.out
            rw [hj'] at this; cases this
            simp [isE, HEn.out]
          · exact HNo.out j e' (by omega) hj'
        case measure => simp [intOf]; omega
    · go_wp2
      refine bodyPost_ret (v := .agg #[.int .u64 0, .int .u64 0, .int .u64 0, .int .u64 0]) (by simp [results, Try.results17, go_sem, c0]) rfl ⟨?_, ?_⟩
      · rw [← HR.out, getE_none (fun j e hj => HNo.out j e (by have := (List.getElem?_eq_some_iff.1 hj).1; have := HLn.out; omega) hj)]
        rfl
      · have hbw := HB.out
        clear c0 f0
        go_grown
end Go.Proofs.Ytmkilckoeaekkaa
