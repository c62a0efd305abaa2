/-
  The reference's index, a row of entries, and what it tells. (Pure mathematics of stage 10, of no seat.)
-/
import Derived.Test.YtmkilckoeaekkaaQHMath
namespace Go.Proofs.Ytmkilckoeaekkaa

/- An entry: a name, a field ('k' ahead of it, or none at all), a fingerprint. -/
structure En where
  nm : ByteArray
  fd : ByteArray
  b : F256
def kf (f : ByteArray) : ByteArray := ⟨#[107]⟩ ++ f
theorem kf_data (f : ByteArray) : (kf f).data.toList = 107 :: f.data.toList := by
  unfold kf; rw [ByteArray.data_append]; simp
theorem kf_inj {f g : ByteArray} (h : kf f = kf g) : f = g := by
  have h2 := congrArg (fun x => x.data.toList) h
  simp only [kf_data] at h2
  injection h2 with _ h2
  obtain ⟨⟨a⟩⟩ := f
  obtain ⟨⟨b⟩⟩ := g
  simp at h2
  subst h2; rfl
def noFd : ByteArray := ⟨#[]⟩
theorem kf_ne (f : ByteArray) : kf f ≠ noFd := fun h => by
  have h2 := congrArg (fun x => x.data.toList) h
  simp only [kf_data] at h2
  cases h2
def isE (n f : ByteArray) (e : En) : Bool := decide (e.nm = n) && decide (e.fd = f)
def layE (n f : ByteArray) (b : F256) : List En → List En
  | [] => [⟨n, f, b⟩]
  | e :: r => if isE n f e = true then ⟨e.nm, e.fd, e.b ||| b⟩ :: r else e :: layE n f b r
def seenE (l : List En) (n : ByteArray) : Bool := l.any fun e => decide (e.nm = n)
def getE (l : List En) (n f : ByteArray) : F256 := match l.find? (isE n f) with | some e => e.b | none => 0
def absE (l : List En) : Ix := ⟨seenE l, fun n f => getE l n (kf f)⟩
theorem getE_nil (n f : ByteArray) : getE [] n f = 0 := rfl
theorem getE_hit {n f : ByteArray} {e : En} (h : isE n f e = true) (r : List En) : getE (e :: r) n f = e.b := by unfold getE; rw [List.find?_cons_of_pos h]
theorem getE_miss {n f : ByteArray} {e : En} (h : isE n f e = false) (r : List En) : getE (e :: r) n f = getE r n f := by unfold getE; rw [List.find?_cons_of_neg (by simp [h])]
theorem getE_lay (n f : ByteArray) (b : F256) (m g : ByteArray) : ∀ l : List En, getE (layE n f b l) m g = if m = n ∧ g = f then getE l m g ||| b else getE l m g
  | [] => by
    rw [layE]
    split
    · rename_i h
      obtain ⟨rfl, rfl⟩ := h
      rw [getE_hit (by simp [isE]), getE_nil]; simp
    · rename_i h
      rw [getE_miss (by simp only [isE, Bool.and_eq_false_iff, decide_eq_false_iff_not]; by_cases e : n = m
                        · exact .inr fun e2 => h ⟨e.symm, e2.symm⟩
                        · exact .inl e)]
  | e :: r => by
    rw [layE]
    split
    · rename_i h
      have h' := h
      simp only [isE, Bool.and_eq_true, decide_eq_true_eq] at h'
      by_cases hm : isE m g e = true
      · have hm' := hm
        simp only [isE, Bool.and_eq_true, decide_eq_true_eq] at hm'
        rw [getE_hit (by simpa [isE] using hm), getE_hit hm, if_pos ⟨hm'.1.symm.trans h'.1, hm'.2.symm.trans h'.2⟩]
      · have hm0 : isE m g e = false := by simpa using hm
        rw [getE_miss (by simpa [isE] using hm0), getE_miss hm0, if_neg]
        rintro ⟨rfl, rfl⟩
        exact hm h
    · rename_i h
      by_cases hm : isE m g e = true
      · rw [getE_hit hm, getE_hit hm, if_neg]
        rintro ⟨rfl, rfl⟩
        exact h hm
      · have hm0 : isE m g e = false := by simpa using hm
        rw [getE_miss hm0, getE_miss hm0, getE_lay n f b m g r]
theorem seenE_lay (n f : ByteArray) (b : F256) (m : ByteArray) : ∀ l : List En, seenE (layE n f b l) m = (seenE l m || decide (m = n))
  | [] => by simp [layE, seenE, eq_comm]
  | e :: r => by
    rw [layE]
    split
    · rename_i h
      simp only [isE, Bool.and_eq_true, decide_eq_true_eq] at h
      simp only [seenE, List.any_cons]
      by_cases hm : m = n
      · subst hm; simp [h.1]
      · simp [hm]
    · have := seenE_lay n f b m r
      simp only [seenE, List.any_cons] at this ⊢
      rw [this, Bool.or_assoc]
theorem abs_see (l : List En) (n : ByteArray) : absE (layE n noFd 0 l) = (absE l).see n := by
  unfold absE Ix.see
  congr 1
  · funext m; exact seenE_lay n noFd 0 m l
  · funext m g
    rw [getE_lay, if_neg]
    rintro ⟨-, h⟩
    exact kf_ne g h
theorem abs_lay (l : List En) (n f : ByteArray) (b : F256) : absE (layE n (kf f) b l) = ((absE l).lay n f b).see n := by
  unfold absE Ix.see Ix.lay
  congr 1
  · funext m; exact seenE_lay n (kf f) b m l
  · funext m g
    rw [getE_lay]
    show _ = if m = n ∧ g = f then getE l m (kf g) ||| b else getE l m (kf g)
    by_cases h : m = n ∧ g = f
    · rw [if_pos h, if_pos ⟨h.1, by rw [h.2]⟩]
    · rw [if_neg h, if_neg]
      rintro ⟨e1, e2⟩
      exact h ⟨e1, kf_inj e2⟩
/- No two entries of one name and field. -/
def apartE (l : List En) : Prop := l.Pairwise fun a b => ¬ (a.nm = b.nm ∧ a.fd = b.fd)
theorem mem_lay {n f : ByteArray} {b : F256} : ∀ {l : List En} {e : En}, e ∈ layE n f b l → (∃ e' ∈ l, e'.nm = e.nm ∧ e'.fd = e.fd) ∨ (e.nm = n ∧ e.fd = f)
  | [], e, h => by
    simp [layE] at h; subst h; exact .inr ⟨rfl, rfl⟩
  | a :: r, e, h => by
    rw [layE] at h
    split at h
    · rcases List.mem_cons.1 h with rfl | h
      · exact .inl ⟨a, by simp, rfl, rfl⟩
      · exact .inl ⟨e, by simp [h], rfl, rfl⟩
    · rcases List.mem_cons.1 h with rfl | h
      · exact .inl ⟨e, by simp, rfl, rfl⟩
      · rcases mem_lay h with ⟨e', h1, h2⟩ | h1
        · exact .inl ⟨e', by simp [h1], h2⟩
        · exact .inr h1
theorem apart_lay {n f : ByteArray} {b : F256} : ∀ {l : List En}, apartE l → apartE (layE n f b l)
  | [], _ => by simp [layE, apartE]
  | a :: r, h => by
    have h' := List.pairwise_cons.1 h
    rw [layE]
    split
    · exact List.pairwise_cons.2 ⟨fun x hx => h'.1 x hx, h'.2⟩
    · rename_i hn
      refine List.pairwise_cons.2 ⟨fun x hx => ?_, apart_lay h'.2⟩
      rcases mem_lay hx with ⟨e', h1, h2, h3⟩ | ⟨h1, h2⟩
      · rw [← h2, ← h3]; exact h'.1 e' h1
      · rw [h1, h2]
        rintro ⟨e1, e2⟩
        exact hn (by simp [isE, e1, e2])
/- Join: all entries of the other one are laid. -/
def joinE : List En → List En → List En
  | l, [] => l
  | l, e :: r => joinE (layE e.nm e.fd e.b l) r
theorem getE_out {l : List En} {n f : ByteArray} (h : ∀ e ∈ l, ¬ (e.nm = n ∧ e.fd = f)) : getE l n f = 0 := by
  induction l with
  | nil => rfl
  | cons a r ih =>
    rw [getE_miss, ih (fun e he => h e (by simp [he]))]
    have := h a (by simp)
    simp only [isE, Bool.and_eq_false_iff, decide_eq_false_iff_not]
    by_cases e : a.nm = n
    · exact .inr fun e2 => this ⟨e, e2⟩
    · exact .inl e
theorem getE_join (n f : ByteArray) : ∀ {r : List En} (l : List En), apartE r → getE (joinE l r) n f = getE l n f ||| getE r n f
  | [], l, _ => by rw [joinE, getE_nil]; simp
  | e :: r, l, h => by
    have h' := List.pairwise_cons.1 h
    rw [joinE, getE_join n f _ h'.2, getE_lay]
    by_cases hm : isE n f e = true
    · have hm' := hm
      simp only [isE, Bool.and_eq_true, decide_eq_true_eq] at hm'
      rw [if_pos ⟨hm'.1.symm, hm'.2.symm⟩, getE_hit hm, getE_out (l := r) (fun x hx hh => h'.1 x hx ⟨hm'.1.trans hh.1.symm, hm'.2.trans hh.2.symm⟩)]
      simp
    · have hm0 : isE n f e = false := by simpa using hm
      rw [if_neg, getE_miss hm0]
      rintro ⟨rfl, rfl⟩
      exact hm (by simp [isE])
theorem seenE_join (m : ByteArray) : ∀ (r l : List En), seenE (joinE l r) m = (seenE l m || seenE r m)
  | [], l => by simp [joinE, seenE]
  | e :: r, l => by
    rw [joinE, seenE_join m r, seenE_lay]
    simp only [seenE, List.any_cons]
    by_cases h : m = e.nm
    · subst h; simp
    · have : ¬ e.nm = m := fun x => h x.symm
      simp [h, this]
theorem abs_join {l r : List En} (h : apartE r) : absE (joinE l r) = (absE l).join (absE r) := by
  unfold absE Ix.join
  congr 1
  · funext m; exact seenE_join m r l
  · funext m g; exact getE_join m (kf g) l h
theorem apart_join : ∀ {r l : List En}, apartE l → apartE (joinE l r)
  | [], _, h => h
  | e :: r, l, h => apart_join (r := r) (l := layE e.nm e.fd e.b l) (apart_lay h)
theorem abs_nil : absE [] = Ix.none := by unfold absE Ix.none; congr 1
end Go.Proofs.Ytmkilckoeaekkaa
