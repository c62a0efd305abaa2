/-
  What a condition among nodes is, row by row; how its tests lie in memory.
  A condition and its opposite, behind nodes: which rows hold which.
  What the tests of package pred tell of a row.
  The tests of a comparison and of a part.
  The test of a value at its place.
-/
import Derived.Test.YtjekpclbedbaoaaKS11
import Derived.Test.YtjekpclbedbaoaaKS13
import Derived.Test.YtjekpclbedbaoaaKS14
import Derived.Test.YtjekpclbedbaoaaKS15
import Derived.Deep.RegionHeld3
namespace Go.Proofs.Ytjekpclbedbaoaa.PD
open Go.RowKit Go.Joins

def how1 (k : Int) : Nat := if k = 13 then 1 else if k = 11 ∨ k = 12 then 2 else 0
def ahead (l : List Int) (i : Nat) : Bool := l.all fun e => decide (0 ≤ e) && decide (e < (i : Int))
def bel (q : Nx) (i : Nat) : List Int := if q.np.l.length = how1 q.np.kind ∧ ahead q.np.l i = true then q.np.l else []
theorem ahead_mem {l : List Int} {i : Nat} (h : ahead l i = true) {e : Int} (he : e ∈ l) : 0 ≤ e ∧ e < (i : Int) := by
  have := List.all_eq_true.1 h e he
  simpa using this
theorem bel_mem {q : Nx} {i : Nat} {e : Int} (he : e ∈ bel q i) : 0 ≤ e ∧ e < (i : Int) := by
  unfold bel at he
  split at he
  · rename_i h; exact ahead_mem h.2 he
  · cases he
def valAt (cs : List TN.Cl) (row : TN.Rw) (s : List UInt8) : Option TN.Vl := if 0 ≤ TN.findC cs (St s) then row[(TN.findC cs (St s)).toNat]? else none
def cmpQ (q : Nx) (v : TN.Vl) : Bool := TN.holdsB q.np.n v.k q.np.vk (TN.cmpV v.k v.n v.s v.h0 v.h1 v.h2 v.h3 v.h4 v.h5 v.h6 v.h7 q.np.vk q.np.vn (St q.np.vs) q.h0 q.h1 q.h2 q.h3 q.h4 q.h5 q.h6 q.h7)
def hasQ (q : Nx) (v : TN.Vl) : Bool := decide (v.k = 2) && Lib.contains v.s.data.toList q.np.vs
def hsAt (hs : List Bool) (a : Int) : Bool := hs.getD a.toNat false
def tst (cs : List TN.Cl) (q : Nx) (i : Nat) (hs : List Bool) (row : TN.Rw) : Bool :=
  if q.np.kind = 14 then (match valAt cs row q.np.s with | some v => cmpQ q v | none => false)
  else if q.np.kind = 15 then (match valAt cs row q.np.s with | some v => hasQ q v | none => false)
  else match bel q i with
    | [a] => if q.np.kind = 13 then !hsAt hs a else false
    | [a, b] => if q.np.kind = 11 then hsAt hs a && hsAt hs b else if q.np.kind = 12 then hsAt hs a || hsAt hs b else false
    | _ => false
theorem tst_congr {cs : List TN.Cl} {q : Nx} {i : Nat} {hs hs' : List Bool} {row : TN.Rw} (h : ∀ a ∈ bel q i, hsAt hs a = hsAt hs' a) : tst cs q i hs row = tst cs q i hs' row := by
  unfold tst
  split
  · rfl
  · split
    · rfl
    · split
      · rename_i a e; rw [h a (by rw [e]; simp)]
      · rename_i a b e; rw [h a (by rw [e]; simp), h b (by rw [e]; simp)]
      · rfl
def oksA (cs : List TN.Cl) (row : TN.Rw) : List Nx → List Bool → List Bool
  | [], acc => acc
  | q :: r, acc => oksA cs row r (acc ++ [tst cs q acc.length acc row])
def oks (cs : List TN.Cl) (row : TN.Rw) (qs : List Nx) : List Bool := oksA cs row qs []
theorem oksA_len (cs : List TN.Cl) (row : TN.Rw) : ∀ (qs : List Nx) (acc : List Bool), (oksA cs row qs acc).length = acc.length + qs.length
  | [], acc => rfl
  | q :: r, acc => by
    show (oksA cs row r _).length = _
    rw [oksA_len cs row r, List.length_append, List.length_cons, List.length_cons, List.length_nil]; omega
theorem oks_len (cs : List TN.Cl) (row : TN.Rw) (qs : List Nx) : (oks cs row qs).length = qs.length := by
  unfold oks; rw [oksA_len]; simp
theorem oksA_pre (cs : List TN.Cl) (row : TN.Rw) : ∀ (qs : List Nx) (acc : List Bool) (j : Nat), j < acc.length → (oksA cs row qs acc)[j]? = acc[j]?
  | [], acc, j, _ => rfl
  | q :: r, acc, j, h => by
    show (oksA cs row r _)[j]? = _
    rw [oksA_pre cs row r _ j (by simp; omega), List.getElem?_append_left h]
theorem oksA_get (cs : List TN.Cl) (row : TN.Rw) : ∀ (qs : List Nx) (acc : List Bool) (j : Nat) (q : Nx), qs[j]? = some q → (oksA cs row qs acc)[acc.length + j]? = some (tst cs q (acc.length + j) (oksA cs row qs acc) row)
  | [], acc, j, q, h => by simp at h
  | x :: r, acc, 0, q, h => by
    simp at h; subst h
    show (oksA cs row r _)[acc.length]? = some (tst cs x acc.length (oksA cs row r _) row)
    rw [oksA_pre cs row r _ acc.length (by simp), List.getElem?_append_right (Nat.le_refl _), Nat.sub_self]
    show some _ = some _
    congr 1
    refine tst_congr (fun a ha => ?_)
    have := bel_mem ha
    unfold hsAt
    rw [List.getD_eq_getElem?_getD, List.getD_eq_getElem?_getD, oksA_pre cs row r _ a.toNat (by simp; omega), List.getElem?_append_left (by omega)]
  | x :: r, acc, j + 1, q, h => by
    have := oksA_get cs row r (acc ++ [tst cs x acc.length acc row]) j q (by simpa using h)
    rw [List.length_append, show acc.length + [tst cs x acc.length acc row].length + j = acc.length + (j + 1) by simp; omega] at this
    exact this
theorem oks_get {cs : List TN.Cl} {row : TN.Rw} {qs : List Nx} {j : Nat} {q : Nx} (h : qs[j]? = some q) : (oks cs row qs)[j]? = some (tst cs q j (oks cs row qs) row) := by
  have := oksA_get cs row qs [] j q h
  rw [List.length_nil, Nat.zero_add] at this
  exact this
def holdsX (cs : List TN.Cl) (qs : List Nx) (i : Int) (row : TN.Rw) : Bool := decide (0 ≤ i) && hsAt (oks cs row qs) i
theorem holdsX_out {cs : List TN.Cl} {qs : List Nx} {i : Int} {row : TN.Rw} (h : i < 0 ∨ (qs.length : Int) ≤ i) : holdsX cs qs i row = false := by
  unfold holdsX hsAt
  rcases h with h | h
  · rw [decide_eq_false (by omega)]; rfl
  · rw [List.getD_eq_getElem?_getD, List.getElem?_eq_none (by rw [oks_len]; omega)]; simp
/- The tests' values held, cell by cell. -/
def Hd (w : World) (hd : Nat) (hs : List Bool) : Prop := w.heap[hd]? = some (.cells (hs.map Value.bool).toArray 4 (0, 0))
theorem Hd.cell {w : World} {hd : Nat} {hs : List Bool} (h : Hd w hd hs) {a : Nat} (ha : a < hs.length) : w.cell? ⟨hd, a, none⟩ = some (.bool (hsAt hs a)) := by
  rw [block_cell h a, ← Array.getElem?_toList]
  simp only [List.getElem?_map, List.getElem?_eq_getElem ha, Option.map_some, hsAt, List.getD_eq_getElem?_getD, Int.toNat_natCast, Option.getD_some]
theorem Hd.on {w w' : World} {hd : Nat} {hs : List Bool} (h : Hd w hd hs) (hb : Below w.heap.size w w') : Hd w' hd hs := block_on h hb
theorem Hd.set {w : World} {hd : Nat} {hs : List Bool} (h : Hd w hd hs) (a : Nat) (b : Bool) : Hd (w.setCell ⟨hd, a, none⟩ (.bool b)) hd (hs.set a b) := by
  have := block_set h a (.bool b)
  unfold Hd
  rw [this]
  congr 2
  rw [List.map_set, ← List.setIfInBounds_toArray]
abbrev slB (hd n : Nat) : Value := .slice (some ⟨hd, 0, none⟩) n n
/- Blocks that may turn: those of the tests' values, of the steps and of their variable. -/
def TyOk (w : World) (T : Nat → Prop) (hd : Nat) : Prop := ∀ k, T k → hd ≤ k ∧ ∀ c t fz, w.heap[k]? = some (.cells c t fz) → t = 4 ∨ t = 103 ∨ t = 106 ∨ t = 76
theorem blk_kp {w w' : World} {T : Nat → Prop} {hd b t : Nat} {c : Array Value} {fz : Nat × Nat} (hk : Kp T w w') (hT : TyOk w T hd) (h : w.heap[b]? = some (.cells c t fz)) (ht : t ≠ 4 ∧ t ≠ 103 ∧ t ≠ 106 ∧ t ≠ 76) : w'.heap[b]? = some (.cells c t fz) :=
  hk.blk h (fun hb => by
    rcases (hT b hb).2 _ _ _ h with e | e | e | e
    · exact ht.1 e
    · exact ht.2.1 e
    · exact ht.2.2.1 e
    · exact ht.2.2.2 e)
def TyS (w : World) (T : Nat → Prop) (hd : Nat) : Prop := ∀ k, T k → hd ≤ k ∧ ∀ c t fz, w.heap[k]? = some (.cells c t fz) → t = 4 ∨ t = 103 ∨ t = 106
theorem TyS.ok {w : World} {T : Nat → Prop} {hd : Nat} (h : TyS w T hd) : TyOk w T hd := fun k hk => ⟨(h k hk).1, fun c t fz hc => ((h k hk).2 c t fz hc).imp id (fun e => e.imp id .inl)⟩
theorem TyS.blk {w w' : World} {T : Nat → Prop} {hd b t : Nat} {c : Array Value} {fz : Nat × Nat} (hT : TyS w T hd) (hk : Kp T w w') (h : w.heap[b]? = some (.cells c t fz)) (ht : t ≠ 4 ∧ t ≠ 103 ∧ t ≠ 106) : w'.heap[b]? = some (.cells c t fz) :=
  hk.blk h (fun hb => by
    rcases (hT b hb).2 _ _ _ h with e | e | e
    · exact ht.1 e
    · exact ht.2.1 e
    · exact ht.2.2 e)
theorem TyS.no (w : World) (hd : Nat) : TyS w (fun _ => False) hd := fun _ h => h.elim
theorem TyS.hd {w : World} {hd : Nat} {hs : List Bool} (h : Hd w hd hs) : TyS w (fun k => k = hd) hd := fun k e => ⟨by omega, fun c t fz hc => by subst e; rw [h] at hc; cases hc; exact .inl rfl⟩
/- A node's test, as it lies in memory: what it tells of a row. -/
inductive Tst (hd n : Nat) (cs : List TN.Cl) (q : Nx) (i : Nat) (w : World) : Value → Prop
  | never (h : ∀ hs row, tst cs q i hs row = false) : Tst hd n cs q i w (.func (.func 58) #[] #[])
  | cmp (cb fb nb : Nat) (hk : q.np.kind = 14) (h2 : w.heap[cb]? = some (.cells #[.int .i64 (TN.findC cs (St q.np.s))] 3 (0, 0))) (h3 : w.heap[fb]? = some (.cells #[.func (.func 75) #[] #[dp nb]] 92 (0, 0))) (h4 : w.heap[nb]? = some (.cells q.cells.toArray 44 (0, 0))) : Tst hd n cs q i w (.func (.func 99) #[] #[dp cb, dp fb])
  | has (cb fb nb : Nat) (hk : q.np.kind = 15) (h2 : w.heap[cb]? = some (.cells #[.int .i64 (TN.findC cs (St q.np.s))] 3 (0, 0))) (h3 : w.heap[fb]? = some (.cells #[.func (.func 77) #[] #[dp nb]] 92 (0, 0))) (h4 : w.heap[nb]? = some (.cells q.cells.toArray 44 (0, 0))) : Tst hd n cs q i w (.func (.func 99) #[] #[dp cb, dp fb])
  | not (hb lb a : Nat) (hk : q.np.kind = 13) (h1 : a < n) (h2 : w.heap[hb]? = some (.cells #[slB hd n] 102 (0, 0))) (h3 : w.heap[lb]? = some (.cells #[q.lv] 37 (0, 0))) (h4 : SlAt (fun b => b < hd) int1 1 w q.lv [(a : Int)]) (h5 : bel q i = [(a : Int)]) : Tst hd n cs q i w (.func (.func 79) #[] #[dp hb, dp lb])
  | and (hb lb a b : Nat) (hk : q.np.kind = 11) (h1 : a < n ∧ b < n) (h2 : w.heap[hb]? = some (.cells #[slB hd n] 102 (0, 0))) (h3 : w.heap[lb]? = some (.cells #[q.lv] 37 (0, 0))) (h4 : SlAt (fun b => b < hd) int1 1 w q.lv [(a : Int), (b : Int)]) (h5 : bel q i = [(a : Int), (b : Int)]) : Tst hd n cs q i w (.func (.func 80) #[] #[dp hb, dp lb])
  | or (hb lb a b : Nat) (hk : q.np.kind = 12) (h1 : a < n ∧ b < n) (h2 : w.heap[hb]? = some (.cells #[slB hd n] 102 (0, 0))) (h3 : w.heap[lb]? = some (.cells #[q.lv] 37 (0, 0))) (h4 : SlAt (fun b => b < hd) int1 1 w q.lv [(a : Int), (b : Int)]) (h5 : bel q i = [(a : Int), (b : Int)]) : Tst hd n cs q i w (.func (.func 81) #[] #[dp hb, dp lb])
theorem Tst.kp {hd n : Nat} {cs : List TN.Cl} {q : Nx} {i : Nat} {w w' : World} {tv : Value} {T : Nat → Prop} (h : Tst hd n cs q i w tv) (hk : Kp T w w') (hT : TyOk w T hd) : Tst hd n cs q i w' tv := by
  have hl : ∀ b, b < hd → ¬ T b := fun b hb hb' => by have := (hT b hb').1; omega
  cases h with
  | never h => exact .never h
  | cmp cb fb nb hq h2 h3 h4 => exact .cmp cb fb nb hq (blk_kp hk hT h2 (by decide)) (blk_kp hk hT h3 (by decide)) (blk_kp hk hT h4 (by decide))
  | has cb fb nb hq h2 h3 h4 => exact .has cb fb nb hq (blk_kp hk hT h2 (by decide)) (blk_kp hk hT h3 (by decide)) (blk_kp hk hT h4 (by decide))
  | not hb lb a hq h1 h2 h3 h4 h5 => exact .not hb lb a hq h1 (blk_kp hk hT h2 (by decide)) (blk_kp hk hT h3 (by decide)) (h4.kp hk hl) h5
  | and hb lb a b hq h1 h2 h3 h4 h5 => exact .and hb lb a b hq h1 (blk_kp hk hT h2 (by decide)) (blk_kp hk hT h3 (by decide)) (h4.kp hk hl) h5
  | or hb lb a b hq h1 h2 h3 h4 h5 => exact .or hb lb a b hq h1 (blk_kp hk hT h2 (by decide)) (blk_kp hk hT h3 (by decide)) (h4.kp hk hl) h5
end Go.Proofs.Ytjekpclbedbaoaa.PD
namespace Go.Proofs.Ytjekpclbedbaoaa.PD
open Go.RowKit Go.Joins

theorem oksA_app (cs : List TN.Cl) (row : TN.Rw) (ps : List Nx) : ∀ (qs : List Nx) (acc : List Bool), oksA cs row (qs ++ ps) acc = oksA cs row ps (oksA cs row qs acc)
  | [], _ => rfl
  | q :: r, acc => by
    show oksA cs row (r ++ ps) _ = oksA cs row ps (oksA cs row r _)
    exact oksA_app cs row ps r _
theorem oks_snoc (cs : List TN.Cl) (row : TN.Rw) (qs : List Nx) (q : Nx) : oks cs row (qs ++ [q]) = oks cs row qs ++ [tst cs q qs.length (oks cs row qs) row] := by
  have hl := oks_len cs row qs
  unfold oks at hl ⊢
  rw [oksA_app]
  show oksA cs row qs [] ++ [tst cs q (oksA cs row qs []).length (oksA cs row qs []) row] = _
  rw [hl]
theorem holdsX_old {cs : List TN.Cl} {qs : List Nx} {q : Nx} {i : Int} {row : TN.Rw} (h : i < qs.length) : holdsX cs (qs ++ [q]) i row = holdsX cs qs i row := by
  unfold holdsX
  by_cases h0 : 0 ≤ i
  · rw [oks_snoc]
    unfold hsAt
    rw [List.getD_eq_getElem?_getD, List.getD_eq_getElem?_getD, List.getElem?_append_left (by rw [oks_len]; omega)]
  · rw [decide_eq_false h0]; rfl
theorem holdsX_not {cs : List TN.Cl} {qs : List Nx} {q : Nx} {row : TN.Rw} (hn : 0 < qs.length) (hk : q.np.kind = 13) (hl : q.np.l = [(qs.length : Int) - 1]) : holdsX cs (qs ++ [q]) qs.length row = !holdsX cs qs ((qs.length : Int) - 1) row := by
  unfold holdsX
  rw [oks_snoc, decide_eq_true (by omega), decide_eq_true (by omega), Bool.true_and, Bool.true_and]
  have hb : bel q qs.length = [(qs.length : Int) - 1] := by
    unfold bel how1
    rw [hl, hk, if_pos]
    refine ⟨rfl, ?_⟩
    simp [ahead]
    omega
  have h1 : hsAt (oks cs row qs ++ [tst cs q qs.length (oks cs row qs) row]) (qs.length : Int) = tst cs q qs.length (oks cs row qs) row := by
    unfold hsAt
    rw [List.getD_eq_getElem?_getD, List.getElem?_append_right (by rw [oks_len]; simp), oks_len]
    simp
  rw [h1]
  unfold tst
  rw [if_neg (by rw [hk]; decide), if_neg (by rw [hk]; decide), hb]
  show (if q.np.kind = 13 then _ else _) = _
  rw [if_pos hk]
theorem sortR_parts (p : TN.Rw → Bool) (rs : List TN.Rw) : TN.sortR (rs.filter p ++ rs.filter (fun r => !p r)) = TN.sortR rs := TN.sortR_perm_eq (List.filter_append_perm p rs)
end Go.Proofs.Ytjekpclbedbaoaa.PD
namespace Go.Proofs.Ytjekpclbedbaoaa.PD
open Go.RowKit Go.Joins

def Mx (w : World) : Prop := ∃ m, w.cell? ⟨0, 0, none⟩ = some (.int .i64 m)
theorem Mx.on {w w' : World} (h : Mx w) (hb : Below w.heap.size w w') : Mx w' := by
  obtain ⟨m, hm⟩ := h
  exact ⟨m, (hb.cell (p := ⟨_, 0, none⟩) (block_lt_of_cell hm)).trans hm⟩
def Rsz (row : TN.Rw) : Prop := ∀ v ∈ row, v.s.size < 4294967281
theorem slAt_pair {Q : Nat → Prop} {w : World} {v : Value} {l : List Int} (h : SlAt Q int1 1 w v l) {j : Nat} {a : Int} (ha : l[j]? = some a) : ∃ b o c, v = .slice (some ⟨b, o, none⟩) l.length c ∧ l.length ≤ c ∧ c ≤ maxLen ∧ w.cell? ⟨b, o + j, none⟩ = some (.int .i64 a) := by
  obtain ⟨p, c, rfl, h1, h2⟩ := h.form
  obtain ⟨b, o, rfl, -, hc⟩ := h.at ha
  have := hc 0 _ rfl
  rw [Nat.mul_one] at this
  exact ⟨b, o, c, rfl, h1, h2, this⟩
theorem never_any (rv : Value) (w : World) : Calls Try.prog 58 #[rv] w fun e w' => e = .returned (.bool false) ∧ w' = w := by
  go_enter Try.func58, Try.ntmps58
  go_wp2_with fail
  go_ret
  exact ⟨rfl, rfl⟩
set_option maxRecDepth 100000 in
set_option maxHeartbeats 1000000 in
theorem t3_any {hb lb hd a : Nat} {q : Nx} {hs : List Bool} {w : World} (rv : Value) (h2 : w.cell? ⟨hb, 0, none⟩ = some (slB hd hs.length)) (h3 : w.cell? ⟨lb, 0, none⟩ = some q.lv) (h4 : SlAt (fun b => b < hd) int1 1 w q.lv [(a : Int)]) (hH : Hd w hd hs) (ha : a < hs.length) : Calls Try.prog 79 #[rv, dp hb, dp lb] w fun e w' => e = .returned (.bool (!hsAt hs a)) ∧ Below w.heap.size w w' := by
  obtain ⟨b, o, c, e, hc1, hc2, hc⟩ := slAt_pair h4 (j := 0) rfl
  rw [e] at h3
  rw [Nat.add_zero] at hc
  have hx := hH.cell ha
  have ha' : (a : Int) < hs.length := by omega
  have ha0 : (0 : Int) ≤ a := by omega
  generalize hs.length = n at *
  simp only [List.length_cons, List.length_nil] at hc1 h3
  clear h4 e hH
  go_enter Try.func79, Try.ntmps79
  go_upto_region 1 with fail
  go_quiet (fail)
  go_wp2_with fail
  go_ret
  exact ⟨rfl, below_drewN (Below.refl _ _) _⟩
theorem slAt_two {Q : Nat → Prop} {w : World} {v : Value} {a b : Int} (h : SlAt Q int1 1 w v [a, b]) : ∃ g o c, v = .slice (some ⟨g, o, none⟩) 2 c ∧ 2 ≤ c ∧ c ≤ maxLen ∧ w.cell? ⟨g, o, none⟩ = some (.int .i64 a) ∧ w.cell? ⟨g, o + 1, none⟩ = some (.int .i64 b) := by
  obtain ⟨p, c, rfl, h1, h2⟩ := h.form
  obtain ⟨g, o, rfl, -, hc⟩ := h.at (j := 0) rfl
  obtain ⟨g', o', e', -, hc'⟩ := h.at (j := 1) rfl
  cases e'
  exact ⟨g, o, c, rfl, h1, h2, by have := hc 0 _ rfl; simpa using this, by have := hc' 0 _ rfl; simpa using this⟩
set_option maxRecDepth 100000 in
set_option maxHeartbeats 2000000 in
theorem t4_any {hb lb hd a b : Nat} {q : Nx} {hs : List Bool} {w : World} (rv : Value) (h2 : w.cell? ⟨hb, 0, none⟩ = some (slB hd hs.length)) (h3 : w.cell? ⟨lb, 0, none⟩ = some q.lv) (h4 : SlAt (fun b => b < hd) int1 1 w q.lv [(a : Int), (b : Int)]) (hH : Hd w hd hs) (ha : a < hs.length) (hb' : b < hs.length) : Calls Try.prog 80 #[rv, dp hb, dp lb] w fun e w' => e = .returned (.bool (hsAt hs a && hsAt hs b)) ∧ Below w.heap.size w w' := by
  obtain ⟨g, o, c, e, hc1, hc2, hca, hcb⟩ := slAt_two h4
  rw [e] at h3
  have hxa := hH.cell ha
  have hxb := hH.cell hb'
  have ha' : (a : Int) < hs.length := by omega
  have hb'' : (b : Int) < hs.length := by omega
  have ha0 : (0 : Int) ≤ a := by omega
  have hb0 : (0 : Int) ≤ b := by omega
  generalize hs.length = n at *
  clear h4 e hH ha hb'
  generalize hsAt hs a = x at *
  generalize hsAt hs b = y at *
  cases x with
  | true =>
    go_enter Try.func80, Try.ntmps80
    go_upto_region 1 with fail
    go_quiet (fail)
    go_wp2_with fail
    go_ret
    exact ⟨rfl, below_drewN (Below.refl _ _) _⟩
  | false =>
    go_enter Try.func80, Try.ntmps80
    go_upto_region 1 with fail
    go_quiet (fail)
    go_wp2_with fail
    go_ret
    exact ⟨rfl, below_drewN (Below.refl _ _) _⟩
set_option maxRecDepth 100000 in
set_option maxHeartbeats 2000000 in
theorem t5_any {hb lb hd a b : Nat} {q : Nx} {hs : List Bool} {w : World} (rv : Value) (h2 : w.cell? ⟨hb, 0, none⟩ = some (slB hd hs.length)) (h3 : w.cell? ⟨lb, 0, none⟩ = some q.lv) (h4 : SlAt (fun b => b < hd) int1 1 w q.lv [(a : Int), (b : Int)]) (hH : Hd w hd hs) (ha : a < hs.length) (hb' : b < hs.length) : Calls Try.prog 81 #[rv, dp hb, dp lb] w fun e w' => e = .returned (.bool (hsAt hs a || hsAt hs b)) ∧ Below w.heap.size w w' := by
  obtain ⟨g, o, c, e, hc1, hc2, hca, hcb⟩ := slAt_two h4
  rw [e] at h3
  have hxa := hH.cell ha
  have hxb := hH.cell hb'
  have ha' : (a : Int) < hs.length := by omega
  have hb'' : (b : Int) < hs.length := by omega
  have ha0 : (0 : Int) ≤ a := by omega
  have hb0 : (0 : Int) ≤ b := by omega
  generalize hs.length = n at *
  clear h4 e hH ha hb'
  generalize hsAt hs a = x at *
  generalize hsAt hs b = y at *
  cases x with
  | true =>
    go_enter Try.func81, Try.ntmps81
    go_upto_region 1 with fail
    go_quiet (fail)
    go_wp2_with fail
    go_ret
    exact ⟨rfl, below_drewN (Below.refl _ _) _⟩
  | false =>
    go_enter Try.func81, Try.ntmps81
    go_upto_region 1 with fail
    go_quiet (fail)
    go_wp2_with fail
    go_ret
    exact ⟨rfl, below_drewN (Below.refl _ _) _⟩
end Go.Proofs.Ytjekpclbedbaoaa.PD
namespace Go.Proofs.Ytjekpclbedbaoaa.PD
open Go.RowKit Go.Joins

structure NbC (w : World) (nb : Nat) (q : Nx) : Prop where
  c2 : w.cell? ⟨nb, 2, none⟩ = some (.int .i64 q.np.n)
  c5 : w.cell? ⟨nb, 5, none⟩ = some (.int .i64 q.np.vk)
  c6 : w.cell? ⟨nb, 6, none⟩ = some (.int .i64 q.np.vn)
  c7 : w.cell? ⟨nb, 7, none⟩ = some (.string (St q.np.vs))
  c8 : w.cell? ⟨nb, 8, none⟩ = some (.int .i64 q.h0)
  c9 : w.cell? ⟨nb, 9, none⟩ = some (.int .i64 q.h1)
  c10 : w.cell? ⟨nb, 10, none⟩ = some (.int .i64 q.h2)
  c11 : w.cell? ⟨nb, 11, none⟩ = some (.int .i64 q.h3)
  c12 : w.cell? ⟨nb, 12, none⟩ = some (.int .i64 q.h4)
  c13 : w.cell? ⟨nb, 13, none⟩ = some (.int .i64 q.h5)
  c14 : w.cell? ⟨nb, 14, none⟩ = some (.int .i64 q.h6)
  c15 : w.cell? ⟨nb, 15, none⟩ = some (.int .i64 q.h7)
theorem nbC {w : World} {nb : Nat} {q : Nx} (h : w.heap[nb]? = some (.cells q.cells.toArray 44 (0, 0))) : NbC w nb q :=
  ⟨block_cell h 2, block_cell h 5, block_cell h 6, block_cell h 7, block_cell h 8, block_cell h 9, block_cell h 10, block_cell h 11, block_cell h 12, block_cell h 13, block_cell h 14, block_cell h 15⟩
set_option maxRecDepth 100000 in
set_option maxHeartbeats 2000000 in
theorem t1_any {nb : Nat} {q : Nx} {w : World} (v : TN.Vl) (h4 : w.heap[nb]? = some (.cells q.cells.toArray 44 (0, 0))) : Calls Try.prog 75 #[v.val, dp nb] w fun e w' => e = .returned (.bool (cmpQ q v)) ∧ Below w.heap.size w w' := by
  have hl := lt_of_block h4
  have hne : nb ≠ w.heap.size := by omega
  obtain ⟨c2, c5, c6, c7, c8, c9, c10, c11, c12, c13, c14, c15⟩ := nbC h4
  have HC := hid (rfl : cmpQ q v = cmpQ q v)
  have HH : Hid (∀ W, Calls Try.prog 76 #[.int .i64 q.np.n, v.val, TN.V q.np.vk q.np.vn (St q.np.vs) q.h0 q.h1 q.h2 q.h3 q.h4 q.h5 q.h6 q.h7] W fun e w' => e = .returned (.bool (cmpQ q v)) ∧ Below W.heap.size W w') := fun W => TN.holds_any
  generalize cmpQ q v = r at *
  obtain ⟨np, g0, g1, g2, g3, g4, g5, g6, g7, lv, nv, gv⟩ := q
  obtain ⟨k, n, s, a0, a1, a2, a3, a4, a5, a6, a7, sm⟩ := v
  simp only at *
  clear h4
  go_enter Try.func75, Try.ntmps75
  go_wp2_with (go_at_call 76; refine (HH.out _).mono ?_; rintro e w1 ⟨rfl, hb⟩; have HB := hid hb; clear hb)
  go_ret
  exact ⟨rfl, TN.below_on ((Below.refl _ w).alloc (Nat.le_refl _) _) HB.out⟩
theorem vl_eta (v : TN.Vl) : v.val = .agg v.cells.toArray := rfl
set_option maxRecDepth 100000 in
set_option maxHeartbeats 2000000 in
theorem t2_any {nb : Nat} {q : Nx} {w : World} (v : TN.Vl) (h4 : w.heap[nb]? = some (.cells q.cells.toArray 44 (0, 0))) (hM : Mx w) (hv : v.s.size < 4294967281) : Calls Try.prog 77 #[v.val, dp nb] w fun e w' => e = .returned (.bool (hasQ q v)) ∧ Below w.heap.size w w' := by
  have hl := lt_of_block h4
  have hne : nb ≠ w.heap.size := by omega
  obtain ⟨c2, c5, c6, c7, c8, c9, c10, c11, c12, c13, c14, c15⟩ := nbC h4
  have HH : Hid (∀ W, Mx W → Calls Try.prog 78 #[.string v.s, .string (St q.np.vs)] W fun e w' => e = .returned (.bool (Lib.contains v.s.data.toList q.np.vs)) ∧ w' = W) := fun W ⟨m, hm⟩ => Try.strings_Contains v.s (St q.np.vs) m W hv hm
  have HM := hid (hM.on ((Below.refl _ w).alloc (Nat.le_refl _) (.cells v.cells.toArray 40)))
  unfold hasQ
  generalize Lib.contains v.s.data.toList q.np.vs = r at *
  clear hM
  obtain ⟨np, g0, g1, g2, g3, g4, g5, g6, g7, lv, nv, gv⟩ := q
  obtain ⟨k, n, s, a0, a1, a2, a3, a4, a5, a6, a7, sm⟩ := v
  simp only at *
  clear h4 hv
  by_cases hk : k = 2
  · subst hk
    go_enter Try.func77, Try.ntmps77
    go_wp2_with (go_at_call 78; refine (HH.out _ HM.out).mono ?_; rintro e w1 ⟨rfl, he⟩; replace he := he.symm; subst he)
    go_ret
    exact ⟨by simp, (Below.refl _ w).alloc (Nat.le_refl _) _⟩
  · have kb : (k == 2) = false := by simp [hk]
    have hd : decide (k = 2) = false := by simp [hk]
    rw [hd]
    clear hk
    go_enter Try.func77, Try.ntmps77
    go_wp2_with fail
    go_ret
    exact ⟨rfl, (Below.refl _ w).alloc (Nat.le_refl _) _⟩
end Go.Proofs.Ytjekpclbedbaoaa.PD
namespace Go.Proofs.Ytjekpclbedbaoaa.PD
open Go.RowKit Go.Joins

abbrev Sv (cb fb b o : Nat) (v1 v2 : Value) (x : TN.Vl) (w : World) : Prop := w.cell? ⟨cb, 0, none⟩ = some v1 ∧ w.cell? ⟨fb, 0, none⟩ = some v2 ∧ w.cell? ⟨b, o, none⟩ = some (.int .i64 x.k) ∧ w.cell? ⟨b, o + 1, none⟩ = some (.int .i64 x.n) ∧ w.cell? ⟨b, o + 2, none⟩ = some (.string x.s) ∧ w.cell? ⟨b, o + 3, none⟩ = some (.int .i64 x.h0) ∧ w.cell? ⟨b, o + 4, none⟩ = some (.int .i64 x.h1) ∧ w.cell? ⟨b, o + 5, none⟩ = some (.int .i64 x.h2) ∧ w.cell? ⟨b, o + 6, none⟩ = some (.int .i64 x.h3) ∧ w.cell? ⟨b, o + 7, none⟩ = some (.int .i64 x.h4) ∧ w.cell? ⟨b, o + 8, none⟩ = some (.int .i64 x.h5) ∧ w.cell? ⟨b, o + 9, none⟩ = some (.int .i64 x.h6) ∧ w.cell? ⟨b, o + 10, none⟩ = some (.int .i64 x.h7)
theorem svB {cb fb b o : Nat} {v1 v2 : Value} {x : TN.Vl} {w w' : World} (h : Sv cb fb b o v1 v2 x w) (hb : Below w.heap.size w w') : Sv cb fb b o v1 v2 x w' := by
  obtain ⟨a1, a2, b0, b1, b2, b3, b4, b5, b6, b7, b8, b9, b10⟩ := h
  have k : ∀ {a : Addr} {u : Value}, w.cell? a = some u → w'.cell? a = some u := fun {a u} h => (hb.cell (p := a) (block_lt_of_cell h)).trans h
  exact ⟨k a1, k a2, k b0, k b1, k b2, k b3, k b4, k b5, k b6, k b7, k b8, k b9, k b10⟩
theorem svD {cb fb b o : Nat} {v1 v2 : Value} {x : TN.Vl} {w : World} (h : Sv cb fb b o v1 v2 x w) : Sv cb fb b o v1 v2 x w.drew := h
/- A row's value at a place. -/
theorem row_at {w : World} {rv : Value} {row : TN.Rw} (h : TN.RowAt w rv row) : ∃ p c, rv = .slice p row.length c ∧ row.length ≤ maxLen ∧ (∀ (k : Nat) v, row[k]? = some v → ∃ b o, p = some ⟨b, o, none⟩ ∧ TN.ValCells w b (o + k * 11) v) := by
  obtain ⟨p, c, rfl, -, hm, hx⟩ := h
  refine ⟨p, c, rfl, hm, fun k v hk => ?_⟩
  obtain ⟨b, o, rfl, -, hj⟩ := hx (by intro e; subst e; simp at hk)
  exact ⟨b, o, rfl, TN.val_cells (hj k v hk)⟩
set_option maxRecDepth 100000 in
set_option maxHeartbeats 4000000 in
theorem of1_any {cb fb nb : Nat} {q : Nx} {cs : List TN.Cl} {w : World} {rv : Value} {row : TN.Rw} (h2 : w.cell? ⟨cb, 0, none⟩ = some (.int .i64 (TN.findC cs (St q.np.s)))) (h3 : w.cell? ⟨fb, 0, none⟩ = some (.func (.func 75) #[] #[dp nb])) (h4 : w.heap[nb]? = some (.cells q.cells.toArray 44 (0, 0))) (hr : TN.RowAt w rv row) : Calls Try.prog 99 #[rv, dp cb, dp fb] w fun e w' => e = .returned (.bool (match valAt cs row q.np.s with | some v => cmpQ q v | none => false)) ∧ Below w.heap.size w w' := by
  obtain ⟨p, cc, rfl, hm, hx⟩ := row_at hr
  unfold maxLen at hm
  unfold valAt
  generalize TN.findC cs (St q.np.s) = c at *
  clear hr
  by_cases h0 : 0 ≤ c
  · rw [if_pos h0]
    obtain ⟨k, rfl⟩ : ∃ k : Nat, c = k := ⟨c.toNat, by omega⟩
    rw [Int.toNat_natCast]
    by_cases hk : k < row.length
    · obtain ⟨v, hv⟩ : ∃ v, row[k]? = some v := ⟨_, List.getElem?_eq_getElem hk⟩
      obtain ⟨b, o, rfl, hc⟩ := hx k v hv
      rw [hv]
      show Calls _ _ _ _ fun e w' => e = .returned (.bool (cmpQ q v)) ∧ _
      have hS0 : Sv cb fb b (o + k * 11) (.int .i64 k) (.func (.func 75) #[] #[dp nb]) v w := ⟨h2, h3, hc.c0, hc.c1, hc.c2, hc.c3, hc.c4, hc.c5, hc.c6, hc.c7, hc.c8, hc.c9, hc.c10⟩
      have HT : Hid (∀ W, Below w.heap.size w W → Calls Try.prog 75 #[v.val, dp nb] W fun e w' => e = .returned (.bool (cmpQ q v)) ∧ Below W.heap.size W w') := fun W hb => t1_any v (block_on h4 hb)
      have hSx : Hid (∀ W, Below w.heap.size w W → Sv cb fb b (o + k * 11) (.int .i64 k) (.func (.func 75) #[] #[dp nb]) v W) := fun W hb => svB hS0 hb
      have HB0 : Hid (Below w.heap.size w w.drew) := (Below.refl _ _).drew
      generalize cmpQ q v = r at *
      obtain ⟨vk, vn, vs, a0, a1, a2, a3, a4, a5, a6, a7, sm⟩ := v
      have k0 : (0 : Int) ≤ k := by omega
      have k1 : (k : Int) < row.length := by omega
      have kb : decide (k < row.length) = true := by simp; omega
      try dsimp only at HT hS0 hSx
      generalize row.length = n at *
      clear hv hc h4 hx h2 h3 h0 hk
      go_enter Try.func99, Try.ntmps99
      go_upto_region 1 with fail
      go_region_held3 (Sv cb fb b (o + k * 11) (.int .i64 k) (.func (.func 75) #[] #[dp nb]) ⟨vk, vn, vs, a0, a1, a2, a3, a4, a5, a6, a7, sm⟩) (((repeat (first | (with_reducible refine svD ?_))); (with_reducible assumption)))
        (first | (go_at_call 75; refine (HT.out _ HB0.out).mono ?_; rintro e w5 ⟨rfl, hb⟩; have HB5 := hid (HB0.out.trans (hb.mono HB0.out.size)); have hS5 := hSx.out _ HB5.out; clear hb))
      all_goals
        (go_wp2_with fail
         go_ret
         exact ⟨rfl, HB5.out⟩)
    · rw [List.getElem?_eq_none (by omega)]
      have k0 : (0 : Int) ≤ k := by omega
      have k1 : ¬ (k : Int) < row.length := by omega
      have kb : decide (k < row.length) = false := by simp; omega
      generalize row.length = n at *
      clear h4 hx h0 hk h3
      go_enter Try.func99, Try.ntmps99
      go_upto_region 1 with fail
      go_quiet (fail)
      go_wp2_with fail
      go_ret
      exact ⟨rfl, below_drewN (Below.refl _ _) _⟩
  · rw [if_neg h0]
    have cb' : decide (0 ≤ c) = false := by simp; omega
    clear h4 hx h3
    go_enter Try.func99, Try.ntmps99
    go_upto_region 1 with fail
    go_quiet (fail)
    go_wp2_with fail
    go_ret
    exact ⟨rfl, below_drewN (Below.refl _ _) _⟩
set_option maxRecDepth 100000 in
set_option maxHeartbeats 4000000 in
theorem of2_any {cb fb nb : Nat} {q : Nx} {cs : List TN.Cl} {w : World} {rv : Value} {row : TN.Rw} (h2 : w.cell? ⟨cb, 0, none⟩ = some (.int .i64 (TN.findC cs (St q.np.s)))) (h3 : w.cell? ⟨fb, 0, none⟩ = some (.func (.func 77) #[] #[dp nb])) (h4 : w.heap[nb]? = some (.cells q.cells.toArray 44 (0, 0))) (hr : TN.RowAt w rv row) (hM : Mx w) (hz : Rsz row) : Calls Try.prog 99 #[rv, dp cb, dp fb] w fun e w' => e = .returned (.bool (match valAt cs row q.np.s with | some v => hasQ q v | none => false)) ∧ Below w.heap.size w w' := by
  obtain ⟨p, cc, rfl, hm, hx⟩ := row_at hr
  unfold maxLen at hm
  unfold valAt
  generalize TN.findC cs (St q.np.s) = c at *
  clear hr
  by_cases h0 : 0 ≤ c
  · rw [if_pos h0]
    obtain ⟨k, rfl⟩ : ∃ k : Nat, c = k := ⟨c.toNat, by omega⟩
    rw [Int.toNat_natCast]
    by_cases hk : k < row.length
    · obtain ⟨v, hv⟩ : ∃ v, row[k]? = some v := ⟨_, List.getElem?_eq_getElem hk⟩
      obtain ⟨b, o, rfl, hc⟩ := hx k v hv
      rw [hv]
      show Calls _ _ _ _ fun e w' => e = .returned (.bool (hasQ q v)) ∧ _
      have hS0 : Sv cb fb b (o + k * 11) (.int .i64 k) (.func (.func 77) #[] #[dp nb]) v w := ⟨h2, h3, hc.c0, hc.c1, hc.c2, hc.c3, hc.c4, hc.c5, hc.c6, hc.c7, hc.c8, hc.c9, hc.c10⟩
      have HT : Hid (∀ W, Below w.heap.size w W → Calls Try.prog 77 #[v.val, dp nb] W fun e w' => e = .returned (.bool (hasQ q v)) ∧ Below W.heap.size W w') := fun W hb => t2_any v (block_on h4 hb) (hM.on hb) (hz v (List.mem_of_getElem? hv))
      have hSx : Hid (∀ W, Below w.heap.size w W → Sv cb fb b (o + k * 11) (.int .i64 k) (.func (.func 77) #[] #[dp nb]) v W) := fun W hb => svB hS0 hb
      have HB0 : Hid (Below w.heap.size w w.drew) := (Below.refl _ _).drew
      generalize hasQ q v = r at *
      obtain ⟨vk, vn, vs, a0, a1, a2, a3, a4, a5, a6, a7, sm⟩ := v
      have k0 : (0 : Int) ≤ k := by omega
      have k1 : (k : Int) < row.length := by omega
      have kb : decide (k < row.length) = true := by simp; omega
      try dsimp only at HT hS0 hSx
      generalize row.length = n at *
      clear hv hc h4 hx h2 h3 h0 hk hM hz
      go_enter Try.func99, Try.ntmps99
      go_upto_region 1 with fail
      go_region_held3 (Sv cb fb b (o + k * 11) (.int .i64 k) (.func (.func 77) #[] #[dp nb]) ⟨vk, vn, vs, a0, a1, a2, a3, a4, a5, a6, a7, sm⟩) (((repeat (first | (with_reducible refine svD ?_))); (with_reducible assumption)))
        (first | (go_at_call 77; refine (HT.out _ HB0.out).mono ?_; rintro e w5 ⟨rfl, hb⟩; have HB5 := hid (HB0.out.trans (hb.mono HB0.out.size)); have hS5 := hSx.out _ HB5.out; clear hb))
      all_goals
        (go_wp2_with fail
         go_ret
         exact ⟨rfl, HB5.out⟩)
    · rw [List.getElem?_eq_none (by omega)]
      have k0 : (0 : Int) ≤ k := by omega
      have k1 : ¬ (k : Int) < row.length := by omega
      have kb : decide (k < row.length) = false := by simp; omega
      generalize row.length = n at *
      clear h4 hx h0 hk h3 hM hz
      go_enter Try.func99, Try.ntmps99
      go_upto_region 1 with fail
      go_quiet (fail)
      go_wp2_with fail
      go_ret
      exact ⟨rfl, below_drewN (Below.refl _ _) _⟩
  · rw [if_neg h0]
    have cb' : decide (0 ≤ c) = false := by simp; omega
    clear h4 hx h3 hM hz
    go_enter Try.func99, Try.ntmps99
    go_upto_region 1 with fail
    go_quiet (fail)
    go_wp2_with fail
    go_ret
    exact ⟨rfl, below_drewN (Below.refl _ _) _⟩
end Go.Proofs.Ytjekpclbedbaoaa.PD
