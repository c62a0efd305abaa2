/-
  The four side by side: Clone, an Add to the old one, what is asked of them.
-/
import Derived.Test.YtmkilckoeaekkaaQHPl
namespace Go.Proofs.Ytmkilckoeaekkaa
open Go.RowKit Go.Sort Go.Maps Go.Shelf

/- The four, and an old one (block bd) that is as the first. -/
def Pd (w0 : World) (M N bd bx bo b1 b2 : Nat) (x o : Ix) (l r : List En) (w : World) : Prop :=
  ∃ V T U s1 s2, Hx w0.heap.size M w bd x V ∧ (∀ k, T k → ¬ V k) ∧ (∀ k, U k → ¬ V k) ∧ Hx w0.heap.size M w bx x T ∧ Hx w0.heap.size N w bo o U ∧ (∀ k, T k → ¬ U k) ∧ Rk w0.heap.size w b1 s1 l ∧ Rk w0.heap.size w b2 s2 r ∧ (∀ k, Tr b1 s1 k → ¬ Tr b2 s2 k) ∧ Below w0.heap.size w0 w
theorem Pd.on {w0 w w' : World} {M N bd bx bo b1 b2 : Nat} {x o : Ix} {l r : List En} (h : Pd w0 M N bd bx bo b1 b2 x o l r w) (hb : Below w.heap.size w w') : Pd w0 M N bd bx bo b1 b2 x o l r w' := by
  obtain ⟨V, T, U, s1, s2, v1, v2, v3, h1, h2, h3, h4, h5, h6, h7⟩ := h
  exact ⟨V, T, U, s1, s2, v1.on hb, v2, v3, h1.on hb, h2.on hb, h3, h4.on hb, h5.on hb, h6, h7.trans (hb.mono h7.size)⟩
theorem Pd.bel {w0 w : World} {M N bd bx bo b1 b2 : Nat} {x o : Ix} {l r : List En} (h : Pd w0 M N bd bx bo b1 b2 x o l r w) : Below w0.heap.size w0 w := by
  obtain ⟨_, _, _, _, _, _, _, _, _, _, _, _, _, _, h⟩ := h; exact h
theorem pl_clone {w0 w : World} {M N bx bo b1 b2 : Nat} {x o : Ix} {l r : List En} (h : Pl w0 M N bx bo b1 b2 x o l r w) (hM : M + 1 < maxLen) :
    Calls Try.prog 13 #[dp bx] w fun e w' => ∃ b', e = .returned (dp b') ∧ Pd w0 M N bx b' bo b1 b2 x o l r w' ∧ Below w.heap.size w w' := by
  obtain ⟨T, U, s1, s2, h1, h2, h3, h4, h5, h6, h7⟩ := h
  refine (clone_any h1 hM).mono ?_
  rintro e w' ⟨b', T', rfl, hx, hb⟩
  refine ⟨b', rfl, ⟨T, T', U, s1, s2, h1.on hb, fun k hk hv => ?_, fun k hk hv => h3 k hv hk, hx.le h7.size, h2.on hb, fun k hk hu => ?_, h4.on hb, h5.on hb, h6, h7.trans (hb.mono h7.size)⟩, hb⟩
  · have := hx.T_ge k hk; have := h1.T_lt k hv; omega
  · have := hx.T_ge k hk; have := h2.T_lt k hu; omega
theorem pd_add {w0 w : World} {M N bd bx bo b1 b2 : Nat} {x o : Ix} {l r : List En} (h : Pd w0 M N bd bx bo b1 b2 x o l r w) {Q : Nat → Prop} (hQ : ∀ k, Q k → k < w0.heap.size) {nm sc : ByteArray} {t : Int} {ks vs pk pv : Value} {kc vc : List Cl} {kv vv : List Vl} (ha : Ar Q w ks vs pk pv kc vc kv vv) (hn : nm.size ≤ maxLen) (hM : M + kc.length + vc.length + 1 < maxLen) :
    Calls Try.prog 9 #[dp bd, Sc nm ks vs, Po sc pk t pv] w fun e w' => e = .returned (.tuple #[]) ∧ Pl w0 M N bx bo b1 b2 x o l r w' := by
  obtain ⟨V, T, U, s1, s2, v1, v2, v3, h1, h2, h3, h4, h5, h6, h7⟩ := h
  have hz := h7.size
  refine (add_any v1 hz (Q := Q) (fun k hk => ⟨fun hT => ?_, ?_⟩) hn ha.h1 ha.h2 ha.h3 ha.h4 hM (fun c hc => Nat.le_trans (ha.c1 c hc) (by decide)) (fun c hc => Nat.le_trans (ha.c3 c hc) (by decide)) ha.s2 ha.s4).mono ?_
  · have := hQ k hk; have := v1.T_ge k hT; omega
  · have := hQ k hk; omega
  · rintro e w' ⟨rfl, V', -, -, a3⟩
    exact ⟨rfl, T, U, s1, s2, h1.kp a3 v2, h2.kp a3 v3, h3, h4.kp a3 (v1.not_rk h4), h5.kp a3 (v1.not_rk h5), h6, h7.trans (a3.below hz v1.T_ge)⟩
/- Both sides say the same. -/
structure Tie (w0 : World) (M N bx bo b1 b2 : Nat) (l r : List En) (w : World) : Prop where
  pl : Pl w0 M N bx bo b1 b2 (absE l) (absE r) l r w
  al : apartE l
  ar : apartE r
theorem Tie.on {w0 w w' : World} {M N bx bo b1 b2 : Nat} {l r : List En} (h : Tie w0 M N bx bo b1 b2 l r w) (hb : Below w.heap.size w w') : Tie w0 M N bx bo b1 b2 l r w' := ⟨h.pl.on hb, h.al, h.ar⟩
theorem tie_seenX {w0 w : World} {M N bx bo b1 b2 : Nat} {l r : List En} (h : Tie w0 M N bx bo b1 b2 l r w) {nm : ByteArray} (hn : nm.size ≤ maxLen) : Calls Try.prog 14 #[dp bx, .string nm] w fun e w' => e = .returned (.bool (seenE l nm)) ∧ w' = w := by
  obtain ⟨T, U, s1, s2, h1, -⟩ := h.pl
  exact seen_any h1 hn
theorem tie_seenO {w0 w : World} {M N bx bo b1 b2 : Nat} {l r : List En} (h : Tie w0 M N bx bo b1 b2 l r w) {nm : ByteArray} (hn : nm.size ≤ maxLen) : Calls Try.prog 14 #[dp bo, .string nm] w fun e w' => e = .returned (.bool (seenE r nm)) ∧ w' = w := by
  obtain ⟨T, U, s1, s2, -, h2, -⟩ := h.pl
  exact seen_any h2 hn
theorem tie_seenY {w0 w : World} {M N bx bo b1 b2 : Nat} {l r : List En} (h : Tie w0 M N bx bo b1 b2 l r w) {nm : ByteArray} (hl : l.length ≤ 1000000000000) : Calls Try.prog 15 #[dp b1, .string nm] w fun e w' => e = .returned (.bool (seenE l nm)) ∧ w' = w := by
  obtain ⟨T, U, s1, s2, -, -, -, h4, -⟩ := h.pl
  exact rseen_any h4 nm hl
theorem tie_seenZ {w0 w : World} {M N bx bo b1 b2 : Nat} {l r : List En} (h : Tie w0 M N bx bo b1 b2 l r w) {nm : ByteArray} (hl : r.length ≤ 1000000000000) : Calls Try.prog 15 #[dp b2, .string nm] w fun e w' => e = .returned (.bool (seenE r nm)) ∧ w' = w := by
  obtain ⟨T, U, s1, s2, -, -, -, -, h5, -⟩ := h.pl
  exact rseen_any h5 nm hl
theorem tie_might {w0 w : World} {M N bx bo b1 b2 : Nat} {l r : List En} (h : Tie w0 M N bx bo b1 b2 l r w) {Q : Nat → Prop} {v : Value} {ns : List (Nd × List Int)} (hq : Qn Q w v ns) {nm : ByteArray} (hn : nm.size ≤ maxLen) {i : Int} (hi : -9223372036854775808 ≤ i ∧ i ≤ 9223372036854775807) :
    Calls Try.prog 18 #[dp bx, .string nm, .agg #[v], .int .i64 i] w fun e w' => e = .returned (.bool (might KK (absE l) nm (qs ns) i)) ∧ Below w.heap.size w w' := by
  obtain ⟨T, U, s1, s2, h1, -⟩ := h.pl
  exact Might_any h1 hq hn hi
theorem tie_rmight {w0 w : World} {M N bx bo b1 b2 : Nat} {l r : List En} (h : Tie w0 M N bx bo b1 b2 l r w) (hl : l.length ≤ 1000000000000) {Q : Nat → Prop} {v : Value} {ns : List (Nd × List Int)} (hq : Qn Q w v ns) (hsz : ∀ y ∈ ns, y.1.s.size ≤ 562949953421312) {nm : ByteArray} {i : Int} (hi : -9223372036854775808 ≤ i ∧ i ≤ 9223372036854775807) :
    Calls Try.prog 19 #[dp b1, .string nm, .agg #[v], .int .i64 i] w fun e w' => e = .returned (.bool (might KK (absE l) nm (qs ns) i)) ∧ Below w.heap.size w w' := by
  obtain ⟨T, U, s1, s2, -, -, -, h4, -⟩ := h.pl
  exact rmight_any h4 hl hq hsz hi
theorem tie_bits {w0 w : World} {M N bx bo b1 b2 : Nat} {l r : List En} (h : Tie w0 M N bx bo b1 b2 l r w) {nm fd : ByteArray} (hn : nm.size ≤ maxLen) (hf : fd.size ≤ maxLen) : Calls Try.prog 16 #[dp bx, .string nm, .string fd] w fun e w' => e = .returned (B4 (getE l nm (kf fd))) ∧ Below w.heap.size w w' := by
  obtain ⟨T, U, s1, s2, h1, -⟩ := h.pl
  exact bits_any h1 hn hf
theorem tie_rbits {w0 w : World} {M N bx bo b1 b2 : Nat} {l r : List En} (h : Tie w0 M N bx bo b1 b2 l r w) {nm fd : ByteArray} (hf : fd.size ≤ 562949953421312) (hl : l.length ≤ 1000000000000) : Calls Try.prog 17 #[dp b1, .string nm, .string fd] w fun e w' => e = .returned (B4 (getE l nm (kf fd))) ∧ Below w.heap.size w w' := by
  obtain ⟨T, U, s1, s2, -, -, -, h4, -⟩ := h.pl
  exact rbits_any h4 nm fd hf hl
/- Behind each kind of op both sides say the same again. -/
theorem Tie.addX {w0 w w' : World} {M M' N bx bo b1 b2 : Nat} {l r : List En} {nm : ByteArray} {kc vc : List Cl} {kv vv : List Vl} (h : Tie w0 M N bx bo b1 b2 l r w) (hp : Pl w0 M' N bx bo b1 b2 (addX (absE l) nm kc kv vc vv) (absE r) (addE nm kc kv vc vv l) r w') : Tie w0 M' N bx bo b1 b2 (addE nm kc kv vc vv l) r w' :=
  ⟨by rw [abs_add]; exact hp, apart_add h.al, h.ar⟩
theorem Tie.addO {w0 w w' : World} {M N N' bx bo b1 b2 : Nat} {l r : List En} {nm : ByteArray} {kc vc : List Cl} {kv vv : List Vl} (h : Tie w0 M N bx bo b1 b2 l r w) (hp : Pl w0 M N' bx bo b1 b2 (absE l) (Go.Proofs.Ytmkilckoeaekkaa.addX (absE r) nm kc kv vc vv) l (addE nm kc kv vc vv r) w') : Tie w0 M N' bx bo b1 b2 l (addE nm kc kv vc vv r) w' :=
  ⟨by rw [abs_add]; exact hp, h.al, apart_add h.ar⟩
theorem Tie.joined {w0 w w' : World} {M M' N bx bo b1 b2 : Nat} {l r : List En} (h : Tie w0 M N bx bo b1 b2 l r w) (hp : Pl w0 M' N bx bo b1 b2 ((absE l).join (absE r)) (absE r) (joinE l r) r w') : Tie w0 M' N bx bo b1 b2 (joinE l r) r w' :=
  ⟨by rw [abs_join h.ar]; exact hp, apart_join h.al, h.ar⟩
theorem Tie.again {w0 w w' : World} {M N bx bx' bo b1 b2 : Nat} {l r : List En} (h : Tie w0 M N bx bo b1 b2 l r w) (hp : Pl w0 M N bx' bo b1 b2 (absE l) (absE r) l r w') : Tie w0 M N bx' bo b1 b2 l r w' := ⟨hp, h.al, h.ar⟩
theorem addE_len (nm : ByteArray) (kc : List Cl) (kv : List Vl) (vc : List Cl) (vv : List Vl) (l : List En) : (addE nm kc kv vc vv l).length ≤ l.length + kc.length + vc.length + 1 := by
  have h1 := layG_len (nm := nm) (cols := vc) (vals := vv) (l := layG nm kc kv (layE nm noFd 0 l))
  have h2 := layG_len (nm := nm) (cols := kc) (vals := kv) (l := layE nm noFd 0 l)
  have h3 := layE_len nm noFd 0 l
  have h4 : (addE nm kc kv vc vv l).length = (layG nm vc vv (layG nm kc kv (layE nm noFd 0 l))).length := rfl
  omega

end Go.Proofs.Ytmkilckoeaekkaa
