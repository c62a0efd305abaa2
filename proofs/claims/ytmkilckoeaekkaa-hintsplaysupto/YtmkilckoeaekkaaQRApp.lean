/-
  append, with where the row lies that it returns.
-/
import Derived.Test.YtmkilckoeaekkaaQHApp
namespace Go.Proofs.Ytmkilckoeaekkaa
open Go.RowKit Go.Sort Go.Maps Go.Shelf

/- Where a row lies that append returns: where it lay, or in a block that was not there. -/
def At (w : World) (v v' : Value) : Prop := ∀ k, v'.ownBlock = some k → v.ownBlock = some k ∨ w.heap.size ≤ k
theorem At.refl (w : World) (v : Value) : At w v v := fun _ h => .inl h
theorem append_at {P : Program} (w : World) (base : Nat) (t ty e : TypeId) (i : TypeInfo) (z : Value) (size bytes : Nat) (ht : P.underlying t = some (.slice e)) (hi : P.info? e = some i) (hz : i.zero = some z)
    (hsize : i.size = size) (hby : i.bytes = bytes) (hzs : z.cells.size = size) (hsz : 0 < size)
    (v : Value) (n : Nat) (xs : List Value) (hown : w.ownsRow base e size v n xs)
    (a : Addr) (m c : Nat) (news : List Value) (hl : news.length = m * size) (hnews : ∀ j u, news[j]? = some u → w.cell? (a.add j) = some u) (h1 : ∀ u ∈ news, u.oneCell' = true)
    (h63 : n + m ≤ maxLen) (hbytes : (n + m) * bytes ≤ 140737488355328) {v' : Value} {w' : World} (hr : (Builtin.append_ #[t, t] ty #[v, .slice (some a) m c]).run P w = .ok v' w') : At w v v' := by
  intro k hk
  have hsmall : n + m ≤ 9223372036854775807 := by simp only [maxLen] at h63; omega
  rcases hown.2 with ⟨rfl, rfl⟩ | ⟨g, cap, cur, rfl, hbg, hg, hnc, hcm, hcs, htake⟩
  · have hx : xs = [] := List.eq_nil_of_length_eq_zero (by simpa using hown.1)
    subst hx
    obtain ⟨v2, w2, hr2, ho2, -, -⟩ := run_append_own (P := P) w w.heap.size t ty e i z size bytes ht hi hz hsize hby hzs hsz _ 0 [] (World.ownsRow_nil w w.heap.size e size) a m c news hl hnews h1 h63 hbytes (Nat.le_refl _)
    rw [hr] at hr2
    cases hr2
    exact .inr (World.ownsRow.lt ho2 k hk).1
  · subst hsize
    by_cases hroom : n + m ≤ cap
    · have hfit : n * i.size + news.length ≤ cur.size := by rw [hl, hcs, ← Nat.add_mul]; exact Nat.mul_le_mul_right _ hroom
      have hr2 := run_append_room (P := P) w t ty e i ht hi g n cap cur hg a m c news hl hnews h1 hroom hfit
      rw [hr] at hr2
      cases hr2
      exact .inl hk
    · have holds : ∀ j u, xs[j]? = some u → w.cell? ((⟨g, 0, none⟩ : Addr).add j) = some u := World.ownsRow.cells hown (g := g) rfl
      have hr2 := run_append_grow (P := P) w t ty e i z ht hi hz ⟨g, 0, none⟩ n cap xs hown.1 holds a m c news hl hnews (by omega) (by omega) (growslice_fits (by omega) (by rw [hby]; exact hbytes))
      rw [hr] at hr2
      cases hr2
      cases hk
      exact .inr (Nat.le_refl _)
theorem step_appP {ops : Array Oper} {o : Oper} {a : Act} {w : World} {K : Act → World → Prop} {Q : Exit → Act → World → Prop} {E : Prop} {α : Type} {enc : α → List Value} {k e t B N : Nat} {Qb : Nat → Prop} {xs ys : List α} {v u : Value}
    (hE : ElemN t e k N) (hk : ∀ x, (enc x).length = k) (h1 : ∀ y ∈ ys, ∀ c ∈ enc y, c.oneCell' = true) (hgd : o.guard = none) (s x : Operand) (ho : o.op = .call { callee := .builtin .append, args := #[s, x], argTypes := #[t, t] })
    (hs : a.eval s = v) (hx : a.eval x = u) (hown : Own enc k e B w v xs) (hu : SlAt Qb enc k w u ys) (hne : ys ≠ []) (hb : (xs.length + ys.length) * N ≤ 140737488355328) (hN : 1 ≤ N) (hB : B ≤ w.heap.size)
    (h : ∀ v' w', Own enc k e B w' v' (xs ++ ys) → w.grownBy w' v.ownBlock → At w v v' → K (a.put o.dst v') w') : if Region.wanted o (yielded ops a.tmps) = true then Oper.wp Try.prog o a w K Q else E := by
  have hw : Region.wanted o (yielded ops a.tmps) = true := by simp [Region.wanted, hgd]
  rw [if_pos hw]
  obtain ⟨ht, hkp, i0, z, hi, hz0, hz1, hz2, hzs⟩ := hE
  obtain ⟨p, cap, rfl, ⟨hcap, hmax⟩, hy⟩ := hu
  obtain ⟨b, o', rfl, _, hcell⟩ := hy hne
  have hnews : ∀ (j : Nat) c, (ys.flatMap enc)[j]? = some c → w.cell? ((⟨b, o', none⟩ : Addr).add j) = some c := by
    intro j c hj
    rw [Addr.add_lit]
    exact flat_cells hk ys o' hcell j c hj
  have h1' : ∀ c ∈ ys.flatMap enc, c.oneCell' = true := by
    intro c hc
    obtain ⟨y, hy', hcy⟩ := List.mem_flatMap.1 hc
    exact h1 y hy' c hcy
  have h63 : xs.length + ys.length ≤ maxLen := by
    have : (xs.length + ys.length) * 1 ≤ (xs.length + ys.length) * N := Nat.mul_le_mul_left _ hN
    unfold maxLen; omega
  have hby : (xs.length + ys.length) * i0.bytes ≤ 140737488355328 := Nat.le_trans (Nat.mul_le_mul_left _ hz2) hb
  obtain ⟨v', w', hr, h2, h3, h4⟩ := run_append_own (P := Try.prog) w B t o.type e i0 z k i0.bytes ht hi hz0 hz1 rfl hzs hkp v xs.length _ hown ⟨b, o', none⟩ ys.length cap (ys.flatMap enc) (flat_length hk ys) hnews h1' h63 hby hB
  have h5 := append_at (P := Try.prog) w B t o.type e i0 z k i0.bytes ht hi hz0 hz1 rfl hzs hkp v xs.length _ hown ⟨b, o', none⟩ ys.length cap (ys.flatMap enc) (flat_length hk ys) hnews h1' h63 hby hr
  unfold Oper.wp execOp
  simp only [ho, resolve, invoke, builtin, Sem.run_bind, Sem.run_pure, Result.andThen_ok, List.map_toArray, List.map_cons, List.map_nil, hs, hx, hr]
  refine h v' w' ?_ h3 h5
  show w'.ownsRow B e k v' (xs ++ ys).length ((xs ++ ys).flatMap enc)
  rw [List.length_append, List.flatMap_append]; exact h2
end Go.Proofs.Ytmkilckoeaekkaa
