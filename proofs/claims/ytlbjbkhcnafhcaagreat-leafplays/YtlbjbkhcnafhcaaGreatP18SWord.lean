/-
  What schema.Word and the reference's Word return, for every text.
  What schema.placeOf and the reference's Find return, for all schemas and every name.
-/
import Derived.Test.YtlbjbkhcnafhcaaGreatP17RnGet
namespace Go.Proofs.YtlbjbkhcnafhcaaGreat
open Go.RowKit Go.Sort Go.Shelf

abbrev takenC : Array Value := #[.string ⟨#[102, 101, 116, 99, 104]⟩, .string ⟨#[102, 114, 111, 109]⟩, .string ⟨#[116, 111]⟩, .string ⟨#[119, 104, 101, 114, 101]⟩, .string ⟨#[107, 101, 101, 112]⟩, .string ⟨#[97, 108, 105, 103, 110]⟩, .string ⟨#[103, 114, 111, 117, 112]⟩, .string ⟨#[116, 111, 112]⟩, .string ⟨#[98, 121]⟩, .string ⟨#[106, 111, 105, 110]⟩, .string ⟨#[117, 110, 105, 111, 110]⟩, .string ⟨#[97, 110, 100]⟩, .string ⟨#[111, 114]⟩, .string ⟨#[110, 111, 116]⟩, .string ⟨#[104, 97, 115]⟩, .string ⟨#[116, 114, 117, 101]⟩, .string ⟨#[102, 97, 108, 115, 101]⟩, .string ⟨#[99, 111, 117, 110, 116]⟩, .string ⟨#[115, 117, 109]⟩, .string ⟨#[109, 105, 110]⟩, .string ⟨#[109, 97, 120]⟩, .string ⟨#[109, 101, 97, 110]⟩, .string ⟨#[109, 101, 114, 103, 101]⟩, .string ⟨#[116, 105, 109, 101]⟩]
theorem takenC_get {k : Nat} (h : k < 24) : takenC[k]? = some (.string taken[k]!) := by
  have e : takenC = (taken.map Value.string).toArray := rfl
  rw [e, List.getElem?_toArray, List.getElem?_map, get!_some (show k < taken.length from h)]
  rfl
theorem taken_hit {s : ByteArray} {k : Nat} (hk : k < 24) (h : taken[k]! = s) : takenB s = true := by
  simp only [takenB, List.any_eq_true, decide_eq_true_eq]
  exact ⟨s, by rw [← h]; exact List.mem_of_getElem? (get!_some (show k < taken.length from hk)), rfl⟩
theorem taken_miss {s : ByteArray} (h : ∀ k, k < 24 → ¬ taken[k]! = s) : takenB s = false := by
  rw [Bool.eq_false_iff]
  simp only [takenB, ne_eq, List.any_eq_true, decide_eq_true_eq]
  rintro ⟨t, ht, rfl⟩
  obtain ⟨k, hk, rfl⟩ := List.mem_iff_getElem.1 ht
  exact h k hk (getElem!_pos taken k hk)
theorem hash_hit {s : ByteArray} {k : Nat} (hk : k < s.size) (h : s[k] = 35) : hashB s = true := by
  simp only [hashB, decide_eq_true_eq]
  rw [← h]
  exact Array.mem_toList_iff.2 (Array.getElem_mem (by exact hk))
theorem hash_miss {s : ByteArray} (h : ∀ k (hk : k < s.size), ¬ s[k] = 35) : hashB s = false := by
  simp only [hashB, decide_eq_false_iff_not]
  intro hm
  obtain ⟨k, hk, e⟩ := List.mem_iff_getElem.1 hm
  exact h k (by simpa using hk) e
theorem word_is {s : ByteArray} {a b c : Bool} (h1 : nameB s = a) (h2 : hashB s = b) (h3 : takenB s = c) : wordB s = (a && (!b && !c)) := by rw [wordB, h1, h2, h3]
theorem name_is {s : ByteArray} {r : Bool} {w : World} (hs : s.size ≤ maxLen) (h : nameB s = r) : Calls Tryz.prog 94 #[.string s] w fun e w' => e = .returned (.bool r) ∧ w' = w := by rw [← h]; exact name_any hs
theorem hash_is {s : ByteArray} {r : Bool} {w : World} (h : hashB s = r) : Calls Tryz.prog 95 #[.string s, .string ⟨#[35]⟩] w fun e w' => e = .returned (.bool r) ∧ w' = w := by rw [← h]; exact contains_hash s w
theorem taken_is {s : ByteArray} {r : Bool} {w : World} (h : takenB s = r) : Calls Tryz.prog 96 #[.string s] w fun e w' => e = .returned (.bool r) ∧ w' = w := by rw [← h]; exact taken_any
set_option maxHeartbeats 400000 in
theorem word_any {s : ByteArray} {w : World} (hs : s.size ≤ maxLen) :
    Calls Tryz.prog 68 #[.string s] w fun e w' => e = .returned (.bool (wordB s)) ∧ w' = w := by
  have HS := hid hs
  clear hs
  rw [wordB]
  generalize h1 : nameB s = a
  generalize h2 : hashB s = b
  generalize h3 : takenB s = c
  have H1 := hid h1
  have H2 := hid h2
  have H3 := hid h3
  clear h1 h2 h3
  cases a <;> cases b <;> cases c
  all_goals
    go_enter Tryz.func68, Tryz.ntmps68
    go_wp2_with (first
      | (go_at_call 94; refine (name_is HS.out H1.out).mono ?_; rintro e w' ⟨rfl, rfl⟩)
      | (go_at_call 95; refine (hash_is H2.out).mono ?_; rintro e w' ⟨rfl, rfl⟩)
      | (go_at_call 96; refine (taken_is H3.out).mono ?_; rintro e w' ⟨rfl, rfl⟩))
    go_ret
    exact ⟨rfl, rfl⟩
theorem rname_is5 {s : ByteArray} {r : Bool} {w : World} (hs : s.size ≤ maxLen) (h : nameB s = r) : Calls Tryz.prog 92 #[.string s] w fun e w' => e = .returned (.bool r) ∧ w' = w := by rw [← h]; exact rname_any hs
theorem beq35 {c : UInt8} : ((c.toNat : Int) == 35) = decide (c = 35) := by
  by_cases h : c = 35
  · subst h; rfl
  · have : ¬ c.toNat = 35 := fun e => h (UInt8.toNat_inj.1 e)
    rw [decide_eq_false h, beq_eq_false_iff_ne]
    omega
set_option maxHeartbeats 1000000 in
theorem rword_any {s : ByteArray} {w : World} (hs : s.size ≤ maxLen) :
    Calls Tryz.prog 73 #[.string s] w fun e w' => e = .returned (.bool (wordB s)) ∧ Below w.heap.size w w' := by
  have HS := hid hs
  unfold maxLen at hs
  generalize hr : wordB s = r
  have HR := hid hr
  clear hr
  go_enter Tryz.func73, Tryz.ntmps73
  go_wp2_with fail
  have KB := hid (alloc_block w (.cells takenC 9))
  have HB := hid ((Below.refl w.heap.size w).alloc (Nat.le_refl _) (.cells takenC 9))
  generalize (w.alloc (.cells takenC 9)) = W at *
  go_loopw [4] (fun i wr => ∃ k : Nat, k ≤ 24 ∧ i = .int .i64 k ∧ W = wr ∧ Hid (∀ j, j < k → ¬ taken[j]! = s)) (fun i _ => 24 - (intOf i).toNat)
  case atStart => exact ⟨0, by omega, rfl, rfl, fun j h => absurd h (Nat.not_lt_zero _)⟩
  case round =>
    obtain ⟨k, hk, rfl, rfl, HA⟩ := hrel
    by_cases hlt : k < 24
    · have hc := (block_cell KB.out k).trans (takenC_get hlt)
      have hq := bytes_beq s taken[k]!
      have HT : Hid (taken[k]! = s → takenB s = true) := fun h => taken_hit hlt h
      have HST : Hid (¬ taken[k]! = s → ∀ j, j < k + 1 → ¬ taken[j]! = s) := fun h j hj => by
        by_cases e : j = k
        · subst e; exact h
        · exact HA.out j (by omega)
      generalize taken[k]! = t at hc hq HT HST
      by_cases he : s = t
      · have HE := hid he
        rw [decide_eq_true he] at hq
        clear he
        go_wp2_with fail
        go_ret
        exact ⟨ret_bool (by rw [← HR.out, wordB, HT.out HE.out.symm]; simp), HB.out⟩
      · have HE := hid he
        rw [decide_eq_false he] at hq
        clear he
        go_wp2_with fail
        go_roundw
        case rel => exact ⟨k + 1, by omega, by go_num, by trivial, HST.out (fun e => HE.out e.symm)⟩
        case measure => simp [intOf]; omega
    · have hks : k = 24 := by omega
      subst hks
      have HT := hid (taken_miss HA.out)
      clear HA
      go_wp2_with fail
      go_loopw [5] (fun i wr => ∃ k : Nat, k ≤ s.size ∧ i = .int .i64 k ∧ W = wr ∧ Hid (∀ j (h : j < s.size), j < k → ¬ s[j] = 35)) (fun i _ => s.size - (intOf i).toNat)
      case atStart => exact ⟨0, by omega, rfl, rfl, fun j _ h => absurd h (Nat.not_lt_zero _)⟩
      case round =>
        obtain ⟨k, hk, rfl, rfl, HA⟩ := hrel
        by_cases hlt : k < s.size
        · have hq := beq35 (c := s[k])
          by_cases he : s[k] = 35
          · have HE := hid he
            rw [decide_eq_true he] at hq
            clear he
            go_wp2_with fail
            go_ret
            exact ⟨ret_bool (by rw [← HR.out, wordB, hash_hit hlt HE.out]; simp), HB.out⟩
          · have HE := hid he
            rw [decide_eq_false he] at hq
            clear he
            go_wp2_with fail
            go_roundw
            case rel =>
              refine ⟨k + 1, by omega, by go_num, by trivial, fun j h hj => ?_⟩
              by_cases e : j = k
              · subst e; exact HE.out
              · exact HA.out j h (by omega)
            case measure => simp [intOf]; omega
        · have hks : k = s.size := by omega
          subst hks
          have HH := hid (hash_miss (fun j h => HA.out j h h))
          clear HA
          go_wp2_with (go_at_call 92; refine (rname_any HS.out).mono ?_; rintro e w' ⟨rfl, rfl⟩)
          go_ret
          exact ⟨ret_bool (by rw [← HR.out, wordB, HT.out, HH.out]; simp), HB.out⟩
end Go.Proofs.YtlbjbkhcnafhcaaGreat
namespace Go.Proofs.YtlbjbkhcnafhcaaGreat
open Go.RowKit Go.Sort Go.Shelf

set_option maxHeartbeats 400000 in
theorem placeP (nm : ByteArray) (B : Nat) (w : World) (hB : w.cell? ⟨B, 0, none⟩ = some (.string nm)) :
    PredBelow Tryz.prog 72 #[.pointer (some ⟨B, 0, none⟩)] (fun x : Sh => .agg x.cells.toArray) (fun x => decide (x.nm = nm)) w := fun W x hb => by
  have hBl : B < w.heap.size := block_lt_of_cell hB
  have hc : W.cell? ⟨B, 0, none⟩ = some (.string nm) := (hb.cell (p := ⟨B, 0, none⟩) hBl).trans hB
  have hne : B ≠ W.heap.size := by have := hb.size; omega
  have hbl : B < W.heap.size := by have := hb.size; omega
  have hq := bytes_beq x.nm nm
  show Calls Tryz.prog 72 #[.agg #[.string x.nm, x.kv, x.vv], .pointer (some ⟨B, 0, none⟩)] W fun e w' => e = .returned (.bool (decide (x.nm = nm))) ∧ Below w.heap.size w w'
  generalize decide (x.nm = nm) = r at hq ⊢
  go_enter Tryz.func72, Tryz.ntmps72
  go_wp2
  go_ret
  exact ⟨rfl, hb.alloc hb.size _⟩
set_option maxHeartbeats 400000 in
theorem place_any {v : Value} {l : List Sc} {nm : ByteArray} {w : World} (hv : SchsAt w v l) :
    Calls Tryz.prog 44 #[v, .string nm] w fun e w' => e = .returned (.int .i64 (atS l nm)) ∧ Below w.heap.size w w' := by
  obtain ⟨hs, ⟨p, cap, rfl, hcap, hmax, hx⟩, hh⟩ := hv
  unfold maxLen at hmax
  generalize hr : atS l nm = r
  rw [← heads_at hh nm] at hr
  have eg : ∀ args w, (callFunc 72 args).run Tryz.prog w = .ok (.enter 72 args) w := enters_of Tryz.func72 (by kernel_rfl) rfl
  have hcon : Calls Tryz.prog 71 #[.slice p hs.length cap, .func (.func 72) #[] #[.pointer (some ⟨w.heap.size, 0, none⟩)]] (w.alloc (.cells #[.string nm] 9)) fun e w' => e = .returned (.int .i64 r) ∧ Below (w.alloc (.cells #[.string nm] 9)).heap.size (w.alloc (.cells #[.string nm] 9)) w' := by
    rw [← hr]
    by_cases hn : hs = []
    · subst hn
      go_enter Tryz.func71, Tryz.ntmps71
      go_wp2
      refine wp_loop_rounds 1 ?_
      rw [rounds_succ]
      go_wp2
      go_ret
      exact ⟨rfl, Below.refl _ _⟩
    · obtain ⟨b, o, rfl, -, hj⟩ := hx hn
      have hb0 : b < w.heap.size := by
        have h0 : 0 < hs.length := List.length_pos_iff.2 hn
        exact block_lt_of_cell (hj 0 _ (get!_some h0) 0 _ rfl)
      have h := AnyQ.slices_IndexFunc Tryz.indexS 3 Tryz.isAgg52 Tryz.sizeOf52 Sh.cells (fun _ => rfl) (fun x => decide (x.nm = nm)) 72 #[.pointer (some ⟨w.heap.size, 0, none⟩)] eg b o hs.length cap hs (w.alloc (.cells #[.string nm] 9)) (placeP nm w.heap.size _ (by simp)) (Nat.le_refl _) hmax (by simp; omega) (fun j hjl i u hu => Lib.cell?_alloc_some _ (hj j _ (get!_some hjl) i u hu))
      rw [List.take_length] at h
      exact h
  have HC := hid hcon
  clear hcon hx hr hh
  generalize hs.length = n at *
  go_enter Tryz.func44, Tryz.ntmps44
  go_wp2_with (go_at_call 71; refine HC.out.mono ?_; rintro e w' ⟨rfl, hb'⟩)
  go_ret
  exact ⟨rfl, below_on ((Below.refl _ w).alloc (Nat.le_refl _) _) hb'⟩
theorem place_is {v : Value} {l : List Sc} {nm : ByteArray} {w : World} {r : Int} (hv : SchsAt w v l) (h : atS l nm = r) :
    Calls Tryz.prog 44 #[v, .string nm] w fun e w' => e = .returned (.int .i64 r) ∧ Below w.heap.size w w' := by rw [← h]; exact place_any hv
end Go.Proofs.YtlbjbkhcnafhcaaGreat
