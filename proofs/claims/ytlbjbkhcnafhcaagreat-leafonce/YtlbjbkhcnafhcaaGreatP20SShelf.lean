/-
  The contracts of Go's library that package schema calls, laid at this program's numbers.
  What schema.isTaken and strings.Contains return, for every text.
  What schema.Word and the reference's Word return, for every text.
  What schema.placeOf and the reference's Find return, for all schemas and every name.
-/
import Derived.Test.YtlbjbkhcnafhcaaGreatProg
import Derived.Test.YtlbjbkhcnafhcaaGreatP19RnGet
import Derived.Shelf.Strings.Search3
import Derived.Shelf.SlicesQ.IndexFunc
import Derived.Shelf.Spec.SlicesGrow
namespace Go.Proofs
open Go.Shelf
def Tryz.lays144_ren : Go.Shelf.Ren := ⟨fun | 144 => 95 | 143 => 116 | 219 => 135 | 217 => 143 | 225 => 144 | 224 => 145 | 267 => 146 | 266 => 148 | 314 => 149 | n => n, fun | 9 => 9 | 4 => 4 | 3 => 3 | 5 => 5 | 46 => 160 | 146 => 196 | 51 => 180 | n => n, fun | 1 => 0 | n => n⟩
theorem Tryz.lays144 : Go.Proofs.Lays.n144 Tryz.prog Tryz.lays144_ren := {
  mixed := by kernel_rfl
  f143 := Tryz.func116.trans (congrArg some (by kernel_rfl))
  f144 := Tryz.func95.trans (congrArg some (by kernel_rfl))
  f217 := Tryz.func143.trans (congrArg some (by kernel_rfl))
  f219 := Tryz.func135.trans (congrArg some (by kernel_rfl))
  f224 := Tryz.func145.trans (congrArg some (by kernel_rfl))
  f225 := Tryz.func144.trans (congrArg some (by kernel_rfl))
  f266 := Tryz.func148.trans (congrArg some (by kernel_rfl))
  f267 := Tryz.func146.trans (congrArg some (by kernel_rfl))
  f314 := Tryz.func149.trans (congrArg some (by kernel_rfl))
  t3 := Tryz.underlying3
  a3 := Tryz.isAgg3
  z3 := Tryz.sizeOf3
  v3 := Tryz.zeroValue3
  t4 := Tryz.underlying4
  a4 := Tryz.isAgg4
  z4 := Tryz.sizeOf4
  v4 := Tryz.zeroValue4
  t5 := Tryz.underlying5
  a5 := Tryz.isAgg5
  z5 := Tryz.sizeOf5
  v5 := Tryz.zeroValue5
  t9 := Tryz.underlying9
  a9 := Tryz.isAgg9
  z9 := Tryz.sizeOf9
  v9 := Tryz.zeroValue9
  t46 := Tryz.underlying160
  a46 := Tryz.isAgg160
  z46 := Tryz.sizeOf160
  v46 := Tryz.zeroValue160
  t51 := Tryz.underlying180
  a51 := Tryz.isAgg180
  z51 := Tryz.sizeOf180
  v51 := Tryz.zeroValue180
  t146 := Tryz.underlying196
  a146 := Tryz.isAgg196
  z146 := Tryz.sizeOf196
  v146 := Tryz.zeroValue196
  g1 := by kernel_rfl }
open Go.RowKit Go.Lib in
theorem Tryz.strings_Contains_one (s : ByteArray) (c : UInt8) (w : World) :
    Calls Tryz.prog 95 #[.string s, .string ⟨#[c]⟩] w fun e w' => e = .returned (.bool (decide (0 ≤ Lib.indexByte s.data.toList c))) ∧ w' = w := Any.strings_Contains_one Tryz.lays144 s c w
def Tryz.indexS_ren : Go.Shelf.Ren := ⟨fun | 6 => 71 | n => n, fun | 22 => 22 | 23 => 52 | 25 => 92 | 3 => 3 | 0 => 0 | 4 => 4 | n => n, fun | n => n⟩
theorem Tryz.indexS : Go.Proofs.SlLaysH0.n6 Tryz.prog Tryz.indexS_ren := {
  mixed := by kernel_rfl
  f6 := ⟨Tryz.f71.name, by decide, Tryz.func71.trans (congrArg some (by kernel_rfl))⟩
  t0 := Tryz.underlying0
  a0 := Tryz.isAgg0
  z0 := Tryz.sizeOf0
  v0 := Tryz.zeroValue0
  t3 := Tryz.underlying3
  a3 := Tryz.isAgg3
  z3 := Tryz.sizeOf3
  v3 := Tryz.zeroValue3
  t4 := Tryz.underlying4
  a4 := Tryz.isAgg4
  z4 := Tryz.sizeOf4
  v4 := Tryz.zeroValue4
  t22 := Tryz.underlying22
  a22 := Tryz.isAgg22
  z22 := Tryz.sizeOf22
  v22 := Tryz.zeroValue22
  t25 := Tryz.underlying92
  a25 := Tryz.isAgg92
  z25 := Tryz.sizeOf92
  v25 := Tryz.zeroValue92 }
def Tryz.containsC_ren : Go.Shelf.Ren := ⟨fun | 8 => 98 | 6 => 117 | n => n, fun | 22 => 41 | 23 => 90 | 25 => 151 | 3 => 3 | 0 => 0 | 4 => 4 | n => n, fun | n => n⟩
theorem Tryz.containsC : Go.Proofs.SlLaysH0.n8 Tryz.prog Tryz.containsC_ren := {
  mixed := by kernel_rfl
  f6 := ⟨Tryz.f117.name, by decide, Tryz.func117.trans (congrArg some (by kernel_rfl))⟩
  f8 := ⟨Tryz.f98.name, by decide, Tryz.func98.trans (congrArg some (by kernel_rfl))⟩
  t0 := Tryz.underlying0
  a0 := Tryz.isAgg0
  z0 := Tryz.sizeOf0
  v0 := Tryz.zeroValue0
  t3 := Tryz.underlying3
  a3 := Tryz.isAgg3
  z3 := Tryz.sizeOf3
  v3 := Tryz.zeroValue3
  t4 := Tryz.underlying4
  a4 := Tryz.isAgg4
  z4 := Tryz.sizeOf4
  v4 := Tryz.zeroValue4
  t22 := Tryz.underlying41
  a22 := Tryz.isAgg41
  z22 := Tryz.sizeOf41
  v22 := Tryz.zeroValue41
  t25 := Tryz.underlying151
  a25 := Tryz.isAgg151
  z25 := Tryz.sizeOf151
  v25 := Tryz.zeroValue151 }
def Tryz.growC_ren : Go.Shelf.Ren := ⟨fun | 4 => 91 | n => n, fun | 22 => 41 | 25 => 90 | 3 => 3 | 4 => 4 | 9 => 9 | 20 => 20 | 0 => 0 | n => n, fun | n => n⟩
theorem Tryz.growC : Go.Proofs.Lays8.n4 Tryz.prog Tryz.growC_ren := {
  mixed := by kernel_rfl
  f4 := ⟨Tryz.f91.name, by decide, Tryz.func91.trans (congrArg some (by kernel_rfl))⟩
  t0 := Tryz.underlying0
  a0 := Tryz.isAgg0
  z0 := Tryz.sizeOf0
  v0 := Tryz.zeroValue0
  t3 := Tryz.underlying3
  a3 := Tryz.isAgg3
  z3 := Tryz.sizeOf3
  v3 := Tryz.zeroValue3
  t4 := Tryz.underlying4
  a4 := Tryz.isAgg4
  z4 := Tryz.sizeOf4
  v4 := Tryz.zeroValue4
  t9 := Tryz.underlying9
  a9 := Tryz.isAgg9
  z9 := Tryz.sizeOf9
  v9 := Tryz.zeroValue9
  t20 := Tryz.underlying20
  a20 := Tryz.isAgg20
  z20 := Tryz.sizeOf20
  v20 := Tryz.zeroValue20
  t22 := Tryz.underlying41
  a22 := Tryz.isAgg41
  z22 := Tryz.sizeOf41
  v22 := Tryz.zeroValue41 }
end Go.Proofs
namespace Go.Proofs.YtlbjbkhcnafhcaaGreat
open Go.RowKit Go.Sort Go.Shelf

theorem idx_hash : ∀ l : List UInt8, decide (0 ≤ Lib.indexByte l 35) = decide ((35 : UInt8) ∈ l)
  | [] => by decide
  | b :: l => by
    have ih := idx_hash l
    have h2 : -1 ≤ Lib.indexByte l 35 := by
      have : ∀ l : List UInt8, -1 ≤ Lib.indexByte l 35 := by
        intro l
        induction l with
        | nil => decide
        | cons b l ih => unfold Lib.indexByte; split <;> (try split) <;> omega
      exact this l
    rw [Bool.eq_iff_iff] at ih ⊢
    simp only [decide_eq_true_eq, List.mem_cons] at ih ⊢
    unfold Lib.indexByte
    by_cases hb : b = 35
    · subst hb; simp
    · rw [if_neg (by simpa using hb)]
      have hb' : ¬ (35 : UInt8) = b := fun e => hb e.symm
      by_cases h3 : Lib.indexByte l 35 = -1
      · rw [if_pos (by simpa using h3)]
        rw [h3] at ih
        constructor
        · intro h; omega
        · rintro (h | h)
          · exact absurd h hb'
          · have := ih.2 h; omega
      · rw [if_neg (by simpa using h3)]
        constructor
        · intro _; exact .inr (ih.1 (by omega))
        · intro _; omega
theorem contains_hash (s : ByteArray) (w : World) : Calls Tryz.prog 95 #[.string s, .string ⟨#[35]⟩] w fun e w' => e = .returned (.bool (hashB s)) ∧ w' = w := by
  have h := Tryz.strings_Contains_one s 35 w
  rw [idx_hash] at h
  exact h
theorem takenB_eq (s : ByteArray) : takenB s = (s.toList == ([102, 101, 116, 99, 104] : List UInt8) || (s.toList == ([102, 114, 111, 109] : List UInt8) || (s.toList == ([116, 111] : List UInt8) || (s.toList == ([119, 104, 101, 114, 101] : List UInt8) || (s.toList == ([107, 101, 101, 112] : List UInt8) || (s.toList == ([97, 108, 105, 103, 110] : List UInt8) || (s.toList == ([103, 114, 111, 117, 112] : List UInt8) || (s.toList == ([116, 111, 112] : List UInt8) || (s.toList == ([98, 121] : List UInt8) || (s.toList == ([106, 111, 105, 110] : List UInt8) || (s.toList == ([117, 110, 105, 111, 110] : List UInt8) || (s.toList == ([97, 110, 100] : List UInt8) || (s.toList == ([111, 114] : List UInt8) || (s.toList == ([110, 111, 116] : List UInt8) || (s.toList == ([104, 97, 115] : List UInt8) || (s.toList == ([116, 114, 117, 101] : List UInt8) || (s.toList == ([102, 97, 108, 115, 101] : List UInt8) || (s.toList == ([99, 111, 117, 110, 116] : List UInt8) || (s.toList == ([115, 117, 109] : List UInt8) || (s.toList == ([109, 105, 110] : List UInt8) || (s.toList == ([109, 97, 120] : List UInt8) || (s.toList == ([109, 101, 97, 110] : List UInt8) || (s.toList == ([109, 101, 114, 103, 101] : List UInt8) || (s.toList == ([116, 105, 109, 101] : List UInt8) || false)))))))))))))))))))))))) := by
  have e : ∀ t : ByteArray, decide (t = s) = (s.toList == t.data.toList) := fun t => by rw [← ByteArray.toList_eq, bytes_beq]; exact decide_eq_decide.2 eq_comm
  simp only [takenB, taken, List.any_cons, List.any_nil, e]
set_option maxHeartbeats 8000000 in
theorem taken_any {s : ByteArray} {w : World} : Calls Tryz.prog 96 #[.string s] w fun e w' => e = .returned (.bool (takenB s)) ∧ w' = w := by
  generalize hr : takenB s = r
  have HR := hid hr
  clear hr
  go_enter Tryz.func96, Tryz.ntmps96
  go_wp2
  all_goals
    go_ret
    refine ⟨ret_bool ?_, rfl⟩
    rw [← HR.out, takenB_eq]
    clear HR
    first | (simp [*]; done) | (simp_all; done)
end Go.Proofs.YtlbjbkhcnafhcaaGreat
namespace Go.Proofs.YtlbjbkhcnafhcaaGreat
open Go.RowKit Go.Sort Go.Shelf

abbrev takenC : Array Value := #[.string ⟨#[102, 101, 116, 99, 104]⟩, .string ⟨#[102, 114, 111, 109]⟩, .string ⟨#[116, 111]⟩, .string ⟨#[119, 104, 101, 114, 101]⟩, .string ⟨#[107, 101, 101, 112]⟩, .string ⟨#[97, 108, 105, 103, 110]⟩, .string ⟨#[103, 114, 111, 117, 112]⟩, .string ⟨#[116, 111, 112]⟩, .string ⟨#[98, 121]⟩, .string ⟨#[106, 111, 105, 110]⟩, .string ⟨#[117, 110, 105, 111, 110]⟩, .string ⟨#[97, 110, 100]⟩, .string ⟨#[111, 114]⟩, .string ⟨#[110, 111, 116]⟩, .string ⟨#[104, 97, 115]⟩, .string ⟨#[116, 114, 117, 101]⟩, .string ⟨#[102, 97, 108, 115, 101]⟩, .string ⟨#[99, 111, 117, 110, 116]⟩, .string ⟨#[115, 117, 109]⟩, .string ⟨#[109, 105, 110]⟩, .string ⟨#[109, 97, 120]⟩, .string ⟨#[109, 101, 97, 110]⟩, .string ⟨#[109, 101, 114, 103, 101]⟩, .string ⟨#[116, 105, 109, 101]⟩]
theorem takenC_get {k : Nat} (h : k < 24) : takenC[k]? = some (.string taken[k]!) := by
  have e : takenC = (taken.map Value.string).toArray := rfl
  rw [e, List.getElem?_toArray, List.getElem?_map, get!_some (show k < taken.length from h)]
  rfl
theorem taken_hit {s : ByteArray} {k : Nat} (hk : k < 24) (h : taken[k]! = s) : takenB s = true := by
  simp only [takenB, List.any_eq_true, decide_eq_true_eq]
  exact ⟨s, by rw [← h]; exact List.mem_of_getElem? (get!_some (show k < taken.length from hk)), rfl⟩
theorem taken_miss {s : ByteArray} (h : ∀ k, k < 24 → ¬ taken[k]! = s) : takenB s = false := by
  rw [Bool.eq_false_iff]
  simp only [takenB, ne_eq, List.any_eq_true, decide_eq_true_eq]
  rintro ⟨t, ht, rfl⟩
  obtain ⟨k, hk, rfl⟩ := List.mem_iff_getElem.1 ht
  exact h k hk (getElem!_pos taken k hk)
theorem hash_hit {s : ByteArray} {k : Nat} (hk : k < s.size) (h : s[k] = 35) : hashB s = true := by
  simp only [hashB, decide_eq_true_eq]
  rw [← h]
  exact Array.mem_toList_iff.2 (Array.getElem_mem (by exact hk))
theorem hash_miss {s : ByteArray} (h : ∀ k (hk : k < s.size), ¬ s[k] = 35) : hashB s = false := by
  simp only [hashB, decide_eq_false_iff_not]
  intro hm
  obtain ⟨k, hk, e⟩ := List.mem_iff_getElem.1 hm
  exact h k (by simpa using hk) e
theorem word_is {s : ByteArray} {a b c : Bool} (h1 : nameB s = a) (h2 : hashB s = b) (h3 : takenB s = c) : wordB s = (a && (!b && !c)) := by rw [wordB, h1, h2, h3]
theorem name_is {s : ByteArray} {r : Bool} {w : World} (hs : s.size ≤ maxLen) (h : nameB s = r) : Calls Tryz.prog 94 #[.string s] w fun e w' => e = .returned (.bool r) ∧ w' = w := by rw [← h]; exact name_any hs
theorem hash_is {s : ByteArray} {r : Bool} {w : World} (h : hashB s = r) : Calls Tryz.prog 95 #[.string s, .string ⟨#[35]⟩] w fun e w' => e = .returned (.bool r) ∧ w' = w := by rw [← h]; exact contains_hash s w
theorem taken_is {s : ByteArray} {r : Bool} {w : World} (h : takenB s = r) : Calls Tryz.prog 96 #[.string s] w fun e w' => e = .returned (.bool r) ∧ w' = w := by rw [← h]; exact taken_any
set_option maxHeartbeats 400000 in
theorem word_any {s : ByteArray} {w : World} (hs : s.size ≤ maxLen) :
    Calls Tryz.prog 68 #[.string s] w fun e w' => e = .returned (.bool (wordB s)) ∧ w' = w := by
  have HS := hid hs
  clear hs
  rw [wordB]
  generalize h1 : nameB s = a
  generalize h2 : hashB s = b
  generalize h3 : takenB s = c
  have H1 := hid h1
  have H2 := hid h2
  have H3 := hid h3
  clear h1 h2 h3
  cases a <;> cases b <;> cases c
  all_goals
    go_enter Tryz.func68, Tryz.ntmps68
    go_wp2_with (first
      | (go_at_call 94; refine (name_is HS.out H1.out).mono ?_; rintro e w' ⟨rfl, rfl⟩)
      | (go_at_call 95; refine (hash_is H2.out).mono ?_; rintro e w' ⟨rfl, rfl⟩)
      | (go_at_call 96; refine (taken_is H3.out).mono ?_; rintro e w' ⟨rfl, rfl⟩))
    go_ret
    exact ⟨rfl, rfl⟩
theorem rname_is5 {s : ByteArray} {r : Bool} {w : World} (hs : s.size ≤ maxLen) (h : nameB s = r) : Calls Tryz.prog 92 #[.string s] w fun e w' => e = .returned (.bool r) ∧ w' = w := by rw [← h]; exact rname_any hs
theorem beq35 {c : UInt8} : ((c.toNat : Int) == 35) = decide (c = 35) := by
  by_cases h : c = 35
  · subst h; rfl
  · have : ¬ c.toNat = 35 := fun e => h (UInt8.toNat_inj.1 e)
    rw [decide_eq_false h, beq_eq_false_iff_ne]
    omega
set_option maxHeartbeats 1000000 in
theorem rword_any {s : ByteArray} {w : World} (hs : s.size ≤ maxLen) :
    Calls Tryz.prog 73 #[.string s] w fun e w' => e = .returned (.bool (wordB s)) ∧ Below w.heap.size w w' := by
  have HS := hid hs
  unfold maxLen at hs
  generalize hr : wordB s = r
  have HR := hid hr
  clear hr
  go_enter Tryz.func73, Tryz.ntmps73
  go_wp2_with fail
  have KB := hid (alloc_block w (.cells takenC 9))
  have HB := hid ((Below.refl w.heap.size w).alloc (Nat.le_refl _) (.cells takenC 9))
  generalize (w.alloc (.cells takenC 9)) = W at *
  go_loopw [4] (fun i wr => ∃ k : Nat, k ≤ 24 ∧ i = .int .i64 k ∧ W = wr ∧ Hid (∀ j, j < k → ¬ taken[j]! = s)) (fun i _ => 24 - (intOf i).toNat)
  case atStart => exact ⟨0, by omega, rfl, rfl, fun j h => absurd h (Nat.not_lt_zero _)⟩
  case round =>
    obtain ⟨k, hk, rfl, rfl, HA⟩ := hrel
    by_cases hlt : k < 24
    · have hc := (block_cell KB.out k).trans (takenC_get hlt)
      have hq := bytes_beq s taken[k]!
      have HT : Hid (taken[k]! = s → takenB s = true) := fun h => taken_hit hlt h
      have HST : Hid (¬ taken[k]! = s → ∀ j, j < k + 1 → ¬ taken[j]! = s) := fun h j hj => by
        by_cases e : j = k
        · subst e; exact h
        · exact HA.out j (by omega)
      generalize taken[k]! = t at hc hq HT HST
      by_cases he : s = t
      · have HE := hid he
        rw [decide_eq_true he] at hq
        clear he
        go_wp2_with fail
        go_ret
        exact ⟨ret_bool (by rw [← HR.out, wordB, HT.out HE.out.symm]; simp), HB.out⟩
      · have HE := hid he
        rw [decide_eq_false he] at hq
        clear he
        go_wp2_with fail
        go_roundw
        case rel => exact ⟨k + 1, by omega, by go_num, by trivial, HST.out (fun e => HE.out e.symm)⟩
        case measure => simp [intOf]; omega
    · have hks : k = 24 := by omega
      subst hks
      have HT := hid (taken_miss HA.out)
      clear HA
      go_wp2_with fail
      go_loopw [5] (fun i wr => ∃ k : Nat, k ≤ s.size ∧ i = .int .i64 k ∧ W = wr ∧ Hid (∀ j (h : j < s.size), j < k → ¬ s[j] = 35)) (fun i _ => s.size - (intOf i).toNat)
      case atStart => exact ⟨0, by omega, rfl, rfl, fun j _ h => absurd h (Nat.not_lt_zero _)⟩
      case round =>
        obtain ⟨k, hk, rfl, rfl, HA⟩ := hrel
        by_cases hlt : k < s.size
        · have hq := beq35 (c := s[k])
          by_cases he : s[k] = 35
          · have HE := hid he
            rw [decide_eq_true he] at hq
            clear he
            go_wp2_with fail
            go_ret
            exact ⟨ret_bool (by rw [← HR.out, wordB, hash_hit hlt HE.out]; simp), HB.out⟩
          · have HE := hid he
            rw [decide_eq_false he] at hq
            clear he
            go_wp2_with fail
            go_roundw
            case rel =>
              refine ⟨k + 1, by omega, by go_num, by trivial, fun j h hj => ?_⟩
              by_cases e : j = k
              · subst e; exact HE.out
              · exact HA.out j h (by omega)
            case measure => simp [intOf]; omega
        · have hks : k = s.size := by omega
          subst hks
          have HH := hid (hash_miss (fun j h => HA.out j h h))
          clear HA
          go_wp2_with (go_at_call 92; refine (rname_any HS.out).mono ?_; rintro e w' ⟨rfl, rfl⟩)
          go_ret
          exact ⟨ret_bool (by rw [← HR.out, wordB, HT.out, HH.out]; simp), HB.out⟩
end Go.Proofs.YtlbjbkhcnafhcaaGreat
namespace Go.Proofs.YtlbjbkhcnafhcaaGreat
open Go.RowKit Go.Sort Go.Shelf

set_option maxHeartbeats 400000 in
theorem placeP (nm : ByteArray) (B : Nat) (w : World) (hB : w.cell? ⟨B, 0, none⟩ = some (.string nm)) :
    PredBelow Tryz.prog 72 #[.pointer (some ⟨B, 0, none⟩)] (fun x : Sh => .agg x.cells.toArray) (fun x => decide (x.nm = nm)) w := fun W x hb => by
  have hBl : B < w.heap.size := block_lt_of_cell hB
  have hc : W.cell? ⟨B, 0, none⟩ = some (.string nm) := (hb.cell (p := ⟨B, 0, none⟩) hBl).trans hB
  have hne : B ≠ W.heap.size := by have := hb.size; omega
  have hbl : B < W.heap.size := by have := hb.size; omega
  have hq := bytes_beq x.nm nm
  show Calls Tryz.prog 72 #[.agg #[.string x.nm, x.kv, x.vv], .pointer (some ⟨B, 0, none⟩)] W fun e w' => e = .returned (.bool (decide (x.nm = nm))) ∧ Below w.heap.size w w'
  generalize decide (x.nm = nm) = r at hq ⊢
  go_enter Tryz.func72, Tryz.ntmps72
  go_wp2
  go_ret
  exact ⟨rfl, hb.alloc hb.size _⟩
set_option maxHeartbeats 400000 in
theorem place_any {v : Value} {l : List Sc} {nm : ByteArray} {w : World} (hv : SchsAt w v l) :
    Calls Tryz.prog 44 #[v, .string nm] w fun e w' => e = .returned (.int .i64 (atS l nm)) ∧ Below w.heap.size w w' := by
  obtain ⟨hs, ⟨p, cap, rfl, hcap, hmax, hx⟩, hh⟩ := hv
  unfold maxLen at hmax
  generalize hr : atS l nm = r
  rw [← heads_at hh nm] at hr
  have eg : ∀ args w, (callFunc 72 args).run Tryz.prog w = .ok (.enter 72 args) w := enters_of Tryz.func72 (by kernel_rfl) rfl
  have hcon : Calls Tryz.prog 71 #[.slice p hs.length cap, .func (.func 72) #[] #[.pointer (some ⟨w.heap.size, 0, none⟩)]] (w.alloc (.cells #[.string nm] 9)) fun e w' => e = .returned (.int .i64 r) ∧ Below (w.alloc (.cells #[.string nm] 9)).heap.size (w.alloc (.cells #[.string nm] 9)) w' := by
    rw [← hr]
    by_cases hn : hs = []
    · subst hn
      go_enter Tryz.func71, Tryz.ntmps71
      go_wp2
      refine wp_loop_rounds 1 ?_
      rw [rounds_succ]
      go_wp2
      go_ret
      exact ⟨rfl, Below.refl _ _⟩
    · obtain ⟨b, o, rfl, -, hj⟩ := hx hn
      have hb0 : b < w.heap.size := by
        have h0 : 0 < hs.length := List.length_pos_iff.2 hn
        exact block_lt_of_cell (hj 0 _ (get!_some h0) 0 _ rfl)
      have h := AnyQ.slices_IndexFunc Tryz.indexS 3 Tryz.isAgg52 Tryz.sizeOf52 Sh.cells (fun _ => rfl) (fun x => decide (x.nm = nm)) 72 #[.pointer (some ⟨w.heap.size, 0, none⟩)] eg b o hs.length cap hs (w.alloc (.cells #[.string nm] 9)) (placeP nm w.heap.size _ (by simp)) (Nat.le_refl _) hmax (by simp; omega) (fun j hjl i u hu => Lib.cell?_alloc_some _ (hj j _ (get!_some hjl) i u hu))
      rw [List.take_length] at h
      exact h
  have HC := hid hcon
  clear hcon hx hr hh
  generalize hs.length = n at *
  go_enter Tryz.func44, Tryz.ntmps44
  go_wp2_with (go_at_call 71; refine HC.out.mono ?_; rintro e w' ⟨rfl, hb'⟩)
  go_ret
  exact ⟨rfl, below_on ((Below.refl _ w).alloc (Nat.le_refl _) _) hb'⟩
theorem place_is {v : Value} {l : List Sc} {nm : ByteArray} {w : World} {r : Int} (hv : SchsAt w v l) (h : atS l nm = r) :
    Calls Tryz.prog 44 #[v, .string nm] w fun e w' => e = .returned (.int .i64 r) ∧ Below w.heap.size w w' := by rw [← h]; exact place_any hv
end Go.Proofs.YtlbjbkhcnafhcaaGreat
