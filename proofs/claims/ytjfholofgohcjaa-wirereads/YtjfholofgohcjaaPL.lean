/-
  What wire.Put returns, for every value.
  What wire.bodyOf does with bytes too few, and what wire.Decode returns then.
  What the head of wire's statements (the document's examples) returns.
-/
import Derived.Test.YtjfholofgohcjaaPE
import Derived.Test.YtjfholofgohcjaaPJ
import Derived.Test.YtjfholofgohcjaaPK
namespace Go.Proofs.Ytjfholofgohcjaa
open Go.RowKit Go.Sort

theorem valid_iss {x : Vl} {r : Bool} {w : World} (h : validL x = r) : Calls Try.prog 60 #[x.val] w fun e w' => e = .returned (.bool r) ∧ Below w.heap.size w w' := by rw [← h]; exact valid_any
set_option maxRecDepth 100000 in
set_option maxHeartbeats 1000000 in
theorem put_bad {v : Value} {x : Vl} {w : World} (h : validL x = false) :
    Calls Try.prog 21 #[v, x.val] w fun e w' => e = .returned (.tuple #[.slice none 0 0, .int .i64 10]) ∧ Below w.heap.size w w' := by
  have HV := hid h
  clear h
  have HB := hid ((Below.refl w.heap.size w).alloc (Nat.le_refl _) (.cells (vcl x) 44))
  go_enter Try.func21, Try.ntmps21
  go_wp2_with (first
    | (go_at_call 60; refine (valid_iss HV.out).mono ?_; rintro e w1 ⟨rfl, hb1⟩))
  exact bodyPost_ret (v := .tuple #[.slice none 0 0, .int .i64 10]) (by simp [results, Try.results21, go_sem]) rfl ⟨rfl, below_on HB.out hb1⟩
set_option maxRecDepth 100000 in
set_option maxHeartbeats 1000000 in
theorem put_ok {v : Value} {xs : List UInt8} {x : Vl} {w : World} (hv : BAt w v xs) (h : validL x = true) (hl : xs.length + 200 ≤ 140737488355328) (hs : x.s.size ≤ 64) :
    Calls Try.prog 21 #[v, x.val] w fun e w' => ∃ v', e = .returned (.tuple #[v', .int .i64 0]) ∧ OwnB w.heap.size w' v' (xs ++ valB x) ∧ Below w.heap.size w w' := by
  have HV := hid h
  have HX := hid hv
  have HL := hid hl
  have HS := hid hs
  clear h hl hs
  obtain ⟨p, cap, rfl, -⟩ := hv
  have HB := hid ((Below.refl w.heap.size w).alloc (Nat.le_refl _) (.cells (vcl x) 44))
  have KB := hid (alloc_block w (.cells (vcl x) 44))
  go_enter Try.func21, Try.ntmps21
  go_wp2_with (first
    | (go_at_call 60; refine (valid_iss HV.out).mono ?_; rintro e w1 ⟨rfl, hb1⟩; have HB1 := hid (below_on HB.out hb1); have KB1 := hid (block_on KB.out hb1); have kb1 := block_cell KB1.out; have lt1 := lt_of_block KB1.out; clear hb1))
  go_region_with (first
    | (go_at_call 62; refine (cloneB_any (HX.out.on (HB1.out.trans (Below.refl _ _).drew)) (by have := HL.out; omega)).mono ?_; rintro e w2 ⟨v2, rfl, hown2, hb2⟩; have HO2 := hid hown2; have HB2 := hid hb2; have kb2 := block_cell (block_on (w := w1.drew) KB1.out hb2); obtain ⟨p2, c2, rfl⟩ := hown2.form; clear hown2 hb2)
    | (go_at_call 61; refine (appVal_any HO2.out HB2.out.size (by have := HL.out; have := HS.out; omega)).mono ?_; rintro e w3 ⟨v3, rfl, hown3, hf3⟩; have HO3 := hid hown3; have HF3 := hid hf3; obtain ⟨p3, c3, rfl⟩ := hown3.form; clear hown3 hf3))
  all_goals
    go_wp2
    exact bodyPost_ret (v := .tuple #[.slice p3 _ c3, .int .i64 0]) (by simp [results, Try.results21, go_sem]) rfl ⟨_, rfl, HO3.out.le HB1.out.size, HB1.out.trans ((Below.refl _ _).drew.trans ((HB2.out.trans HF3.out.low).mono HB1.out.size))⟩
end Go.Proofs.Ytjfholofgohcjaa
namespace Go.Proofs.Ytjfholofgohcjaa
open Go.RowKit Go.Sort

theorem RdAt.start {w : World} {v : Value} {xs : List UInt8} (h : BAt w v xs) : RdAt w.heap.size (w.alloc (.cells #[v] 89)) xs :=
  ⟨v, alloc_block w _, h.on ((Below.refl _ w).alloc (Nat.le_refl _) _)⟩
set_option maxRecDepth 100000 in
set_option maxHeartbeats 1000000 in
theorem bodyOf_short {v : Value} {xs : List UInt8} {w : World} (hv : BAt w v xs) (hn : xs.length < 4) :
    Calls Try.prog 74 #[v] w fun e w' => e = dies errB ∧ Below w.heap.size w w' := by
  have HR := hid (RdAt.start hv)
  have HN := hid hn
  have HB := hid ((Below.refl w.heap.size w).alloc (Nat.le_refl _) (.cells #[v] 89))
  clear hn
  obtain ⟨p, cap, rfl, -⟩ := hv
  go_enter Try.func74, Try.ntmps74
  go_wp2_with (first
    | (go_at_call 108; refine (number_no (n := 4) HR.out HN.out).mono ?_; rintro e w1 ⟨rfl, rfl⟩))
  exact ⟨rfl, rfl, HB.out⟩
set_option maxRecDepth 100000 in
set_option maxHeartbeats 1000000 in
theorem decode_dies {v : Value} {w : World} (hbody : ∀ w', Below w.heap.size w w' → Calls Try.prog 74 #[v] w' fun e w'' => e = dies errB ∧ Below w'.heap.size w' w'') :
    Calls Try.prog 28 #[v] w fun e w' => e = .returned (.tuple #[.agg #[.slice none 0 0, .slice none 0 0], .int .i64 40]) ∧ Below w.heap.size w w' := by
  have h1 := alloc_block w (.cells #[.slice none 0 0, .slice none 0 0] 25)
  have h2 := alloc_block (w.alloc (.cells #[.slice none 0 0, .slice none 0 0] 25)) (.cells #[.int .i64 0] 28)
  have hb : Below w.heap.size w ((w.alloc (.cells #[.slice none 0 0, .slice none 0 0] 25)).alloc (.cells #[.int .i64 0] 28)) := ((Below.refl _ w).alloc (Nat.le_refl _) _).alloc (by simp) _
  simp only [World.size_alloc] at h2
  have h1' : ((w.alloc (.cells #[.slice none 0 0, .slice none 0 0] 25)).alloc (.cells #[.int .i64 0] 28)).heap[w.heap.size]? = some (.cells #[.slice none 0 0, .slice none 0 0] 25) := by
    rw [Below.heap_alloc _ _ _ (by simp)]; exact h1
  have H1 := hid h1'
  have H2 := hid h2
  have HB := hid hb
  have HC := hid (hbody _ hb)
  clear h1 h2 hb h1' hbody
  have hmf : ∀ (fn : Fn) (first cap : Array Value) (w : World), (Instr.makeFunc fn first cap).run Try.prog w = .ok (.func fn first cap) w := fun _ _ _ _ => rfl
  go_enter_defers Try.func28, Try.ntmps28
  go_wp2_with (first
    | (go_at_call 74; refine HC.out.mono ?_; rintro e w1 ⟨rfl, hw1⟩))
  have K1 := block_on H2.out hw1
  have K0 := block_on H1.out hw1
  have hb3 : Below w.heap.size w (w1.setCell ⟨w.heap.size + 1, 0, none⟩ (.int .i64 40)) := (HB.out.trans (hw1.mono HB.out.size)).setCell (by simp) _
  have k0 := (set_rd w1 (w.heap.size + 1) 0 (.int .i64 40)).on K0 (by omega)
  have k1 := set_block (i := 0) K1 (.int .i64 40)
  refine leaves_cons (f := 73) (args := #[.pointer (some ⟨w.heap.size + 1, 0, none⟩)]) (by simp) (by simp [go_sem]) ?_
  refine (catch_panicking' (x := 0) ((block_cell K1 0).trans rfl) (block_frozen K1 0)).mono ?_
  rintro e u' w'' ⟨rfl, rfl, rfl⟩
  generalize World.setCell _ _ _ = W at *
  have c0 := block_cell k0
  have c1 := block_cell k1
  simp [Leaves, settle, results, Try.results28, go_sem, c0, c1, hb3]
theorem decode_short {v : Value} {xs : List UInt8} {w : World} (hv : BAt w v xs) (hn : xs.length < 4) :
    Calls Try.prog 28 #[v] w fun e w' => e = .returned (.tuple #[.agg #[.slice none 0 0, .slice none 0 0], .int .i64 40]) ∧ Below w.heap.size w w' :=
  decode_dies fun _ hb => bodyOf_short (hv.on hb) hn
end Go.Proofs.Ytjfholofgohcjaa
namespace Go.Proofs.Ytjfholofgohcjaa
open Go.RowKit Go.Sort

def x258 : Vl := ⟨1, 258, ⟨#[]⟩, 0, 0, 0, 0, 0, 0, 0, 0, small0⟩
def xNeg : Vl := ⟨1, -1, ⟨#[]⟩, 0, 0, 0, 0, 0, 0, 0, 0, small0⟩
def cKk : Cl := ⟨⟨#[107]⟩, 1, by decide⟩
def by8 : List UInt8 := [0, 0, 0, 0, 0, 0, 1, 2]
theorem val258 : valB x258 = by8 := by kernel_rfl
theorem valid258 : validL x258 = true := by kernel_rfl
theorem put258 {w : World} : Calls Try.prog 21 #[.slice none 0 0, V 1 258 ⟨#[]⟩ 0 0 0 0 0 0 0 0] w fun e w' => ∃ p c, e = .returned (.tuple #[.slice p 8 c, .int .i64 0]) ∧ BAt w' (.slice p 8 c) by8 ∧ Below w.heap.size w w' :=
  (put_ok (x := x258) (bat_nil w) valid258 (by simp) (by decide)).mono fun e w' ⟨v', he, ho, hb⟩ => by
    rw [List.nil_append, val258] at ho
    obtain ⟨p, c, rfl⟩ := ho.form
    exact ⟨p, c, he, ho.bat, hb⟩
def in4 : List UInt8 := [2, 97, 98, 99]
theorem take4 {v : Value} {w : World} (h : BAt w v in4) : Calls Try.prog 23 #[v, .int .i64 2] w fun e w' => ∃ p c, e = .returned (.tuple #[V 2 0 ⟨#[97, 98]⟩ 0 0 0 0 0 0 0 0, .slice p 1 c, .int .i64 0]) ∧ BAt w' (.slice p 1 c) [99] ∧ Below w.heap.size w w' :=
  (take_some (x := vStr [97, 98, 99] 2) (r := [99]) h (by kernel_rfl) (by simp)).mono fun e w' ⟨v', he, ho, hb⟩ => by
    obtain ⟨p, c, rfl⟩ := ho.form
    exact ⟨p, c, he, ho.bat, hb⟩
theorem take2 {v : Value} {w : World} (h : BAt w v [2, 97]) : Calls Try.prog 23 #[v, .int .i64 2] w fun e w' => e = .returned (.tuple #[V 0 0 ⟨#[]⟩ 0 0 0 0 0 0 0 0, .slice none 0 0, .int .i64 40]) ∧ Below w.heap.size w w' := take_none h (by decide) (by kernel_rfl)
theorem take1 {v : Value} {w : World} (h : BAt w v [2]) : Calls Try.prog 23 #[v, .int .i64 3] w fun e w' => e = .returned (.tuple #[V 0 0 ⟨#[]⟩ 0 0 0 0 0 0 0 0, .slice none 0 0, .int .i64 40]) ∧ Below w.heap.size w w' := take_none h (by decide) (by kernel_rfl)
def by18 : List UInt8 := [0, 0, 0, 14, 1, 1, 107, 1, 0, 1, 255, 255, 255, 255, 255, 255, 255, 255]
def e22 : List UInt8 := encB [cKk] [[xNeg]]
theorem e22_len : e22.length = 22 := by kernel_rfl
theorem e22_take : e22.take 18 = by18 := by kernel_rfl
theorem check1 : checkV [cKk] [[xNeg]] = 0 := by kernel_rfl
theorem encK {v : Value} {w : World} (h : TabAt w v [cKk] [[xNeg]]) : Calls Try.prog 26 #[v] w fun e w' => ∃ p c, e = .returned (.tuple #[.slice p 22 c, .int .i64 0]) ∧ BAt w' (.slice p 22 c) e22 ∧ 22 ≤ c ∧ Below w.heap.size w w' :=
  (enc_ok h check1 (by simp)).mono fun e w' ⟨v', he, ho, hb⟩ => by
    have ho' : OwnB w.heap.size w' v' e22 := ho
    obtain ⟨p, c, hv, hc, _⟩ := ho'.bat
    rw [e22_len] at hv hc
    subst hv
    exact ⟨p, c, he, ho'.bat, hc, hb⟩
theorem bat_lit {w : World} {b n : Nat} {C : Array Value} {xs : List UInt8} (hb : w.heap[b]? = some (.cells C 5)) (hC : C.toList = xs.map bc) (hn : xs.length = n) (hl : n ≤ 4096) : BAt w (.slice (some ⟨b, 0, none⟩) n n) xs := by
  subst hn
  refine ⟨_, _, rfl, Nat.le_refl _, (fun h => by cases h), by unfold maxLen; omega, fun _ => ⟨_, rfl, fun j x hj => ?_⟩⟩
  rw [Addr.add_lit, Nat.zero_add, block_cell hb, ← Array.getElem?_toList, hC, List.getElem?_map, hj]
  rfl
theorem tabK {w : World} {a b c : Nat} (ha : w.heap[a]? = some (.cells #[.string ⟨#[107]⟩, .int .i64 1] 32)) (hb : w.heap[b]? = some (.cells (vcl xNeg) 44)) (hc : w.heap[c]? = some (.cells #[.slice (some ⟨b, 0, none⟩) 1 1] 65)) :
    TabAt w (.agg #[.slice (some ⟨a, 0, none⟩) 1 1, .slice (some ⟨c, 0, none⟩) 1 1]) [cKk] [[xNeg]] :=
  ⟨_, _, rfl, SlAt.imp (lit_sl (enc := Cl.cells) (k := 2) (xs := [cKk]) ha (fun _ => rfl) rfl rfl (Nat.le_refl _) (by simp)) (fun _ _ => trivial), [.slice (some ⟨b, 0, none⟩) 1 1],
    SlAt.imp (lit_sl (enc := one) (k := 1) (xs := [.slice (some ⟨b, 0, none⟩) 1 1]) hc (fun _ => rfl) rfl rfl (Nat.le_refl _) (by simp)) (fun _ _ => trivial), rfl, fun j h r h1 h2 => by
      match j, h1, h2 with
      | 0, h1, h2 =>
        simp at h1 h2; subst h1 h2
        exact SlAt.imp (lit_sl (enc := Vl.cells) (k := 11) (xs := [xNeg]) hb (fun _ => rfl) rfl rfl (Nat.le_refl _) (by simp)) (fun _ _ => trivial)
      | j + 1, h1, h2 => simp at h1⟩
theorem below_n1 {w1 w2 : World} {x : Obj} (hb : Below (w1.alloc x).heap.size (w1.alloc x) w2) : Below w1.heap.size w1 w2 := ((Below.refl _ w1).alloc (Nat.le_refl _) x).trans (hb.mono (by simp))
theorem below_n2 {w1 w2 : World} {x y : Obj} (hb : Below ((w1.alloc x).alloc y).heap.size ((w1.alloc x).alloc y) w2) : Below w1.heap.size w1 w2 := below_n1 (below_n1 hb)
theorem below_n4 {w1 w2 : World} {x y z t : Obj} (hb : Below ((((w1.alloc x).alloc y).alloc z).alloc t).heap.size ((((w1.alloc x).alloc y).alloc z).alloc t) w2) : Below w1.heap.size w1 w2 := below_n2 (below_n2 hb)
theorem blk1 (w : World) (x : Obj) : (w.alloc x).heap[w.heap.size]? = some x := alloc_block w x
theorem blk2 (w : World) (x y : Obj) : ((w.alloc x).alloc y).heap[w.heap.size + 1]? = some y := by
  have := alloc_block (w.alloc x) y; rw [World.size_alloc] at this; exact this
theorem blk_up {w : World} {b : Nat} {o : Obj} (h : w.heap[b]? = some o) (x : Obj) : (w.alloc x).heap[b]? = some o := block_on h ((Below.refl _ _).alloc (Nat.le_refl _) x)
theorem blk3 (w : World) (x y z : Obj) : (((w.alloc x).alloc y).alloc z).heap[w.heap.size + 2]? = some z := by
  have := alloc_block ((w.alloc x).alloc y) z; simp only [World.size_alloc] at this; exact this
theorem blk4 (w : World) (x y z t : Obj) : ((((w.alloc x).alloc y).alloc z).alloc t).heap[w.heap.size + 3]? = some t := by
  have := alloc_block (((w.alloc x).alloc y).alloc z) t; simp only [World.size_alloc] at this; exact this
set_option maxRecDepth 100000 in
set_option maxHeartbeats 2000000 in
theorem wshown_any {w : World} : Calls Try.prog 20 #[] w fun e w' => e = .returned (.bool true) ∧ Below w.heap.size w w' := by
  go_enter Try.func20, Try.ntmps20
  go_wp2_with (first
    | (go_at_call 21; refine put258.mono ?_; rintro e w1 ⟨p1, c1, rfl, hv1, hb1⟩; have HA1 := hid hv1; have HB1 := hid hb1; have M1 : Hid True := trivial; clear hv1 hb1)
    | (go_at_call 23; have FIRST := M1; refine (take4 (bat_lit (blk1 _ _) rfl rfl (by decide))).mono ?_; rintro e w2 ⟨p2, c2, rfl, hv2, hb2⟩; have S2 := below_n1 hb2; have HA2 := hid (HA1.out.on S2); have HC2 := hid hv2; have HB2 := hid (below_on HB1.out S2); have M2 : Hid True := trivial; clear FIRST M1 hv2 hb2 S2 HA1 HB1)
    | (go_at_call 23; have FIRST := M2; refine (take2 (bat_lit (blk2 _ _ _) rfl rfl (by decide))).mono ?_; rintro e w3 ⟨rfl, hb3⟩; have S3 := below_n2 hb3; have HA3 := hid (HA2.out.on S3); have HC3 := hid (HC2.out.on S3); have HB3 := hid (below_on HB2.out S3); have KV3 := hid (block_on (blk_up (blk1 _ _) _) hb3); have M3 : Hid True := trivial; clear FIRST M2 hb3 S3 HA2 HC2 HB2)
    | (go_at_call 23; have FIRST := M3; refine (take1 (bat_lit (blk2 _ _ _) rfl rfl (by decide))).mono ?_; rintro e w4 ⟨rfl, hb4⟩; have S4 := below_n2 hb4; have HA4 := hid (HA3.out.on S4); have HC4 := hid (HC3.out.on S4); have HB4 := hid (below_on HB3.out S4); have KV4 := hid (block_on KV3.out S4); have M4 : Hid True := trivial; clear FIRST M3 hb4 S4 HA3 HC3 HB3 KV3)
    | (go_at_call 26; refine (encK (tabK (a := w4.heap.size + 1) (b := w4.heap.size + 2) (c := w4.heap.size + 3) (blk_up (blk_up (blk2 _ _ _) _) _) (blk_up (blk3 _ _ _ _) _) (blk4 _ _ _ _ _))).mono ?_; rintro e w5 ⟨p5, c5, rfl, hv5, hc5, hb5⟩; have S5 := below_n4 hb5; have HA5 := hid (HA4.out.on S5); have HC5 := hid (HC4.out.on S5); have HE5 := hid hv5; have HB5 := hid (below_on HB4.out S5); have KV5 := hid (block_on KV4.out S5); clear hv5 hb5 S5 HA4 HC4 HB4 KV4)
    | (go_at_call 28; refine (decode_short (bat_nil _) (by decide)).mono ?_; rintro e w6 ⟨rfl, hb6⟩; have HA6 := hid (HA5.out.on hb6); have HC6 := hid (HC5.out.on hb6); have HE6 := hid (HE5.out.on hb6); have HB6 := hid (below_on HB5.out hb6); have KV6 := hid (block_on KV5.out hb6); have ST : ∀ x, Below w6.heap.size w6 (w6.alloc x) := fun x => (Below.refl _ _).alloc (Nat.le_refl _) x; have k1 : ∀ x, (convert 41 9 (.slice p1 8 c1)).run Try.prog (w6.alloc x) = .ok (.string ⟨#[0, 0, 0, 0, 0, 0, 1, 2]⟩) (w6.alloc x) := fun x => conv_bat (HA6.out.on (ST x)); have k2 : ∀ x, (convert 41 9 (.slice p2 1 c2)).run Try.prog (w6.alloc x) = .ok (.string ⟨#[99]⟩) (w6.alloc x) := fun x => conv_bat (HC6.out.on (ST x)); have k3 : ∀ x, (convert 41 9 (.slice p5 18 c5)).run Try.prog (w6.alloc x) = .ok (.string ⟨#[0, 0, 0, 14, 1, 1, 107, 1, 0, 1, 255, 255, 255, 255, 255, 255, 255, 255]⟩) (w6.alloc x) := fun x => (by have h := BAt.take (k := 18) e22_len (by decide) (HE6.out.on (ST x)); rw [e22_take] at h; exact conv_bat h); have kv := block_cell KV6.out; have lv := lt_of_block KV6.out; clear hb6 HA5 HC5 HE5 HB5 KV5))
  go_ret
  exact ⟨rfl, HB6.out.alloc HB6.out.size _⟩
end Go.Proofs.Ytjfholofgohcjaa
