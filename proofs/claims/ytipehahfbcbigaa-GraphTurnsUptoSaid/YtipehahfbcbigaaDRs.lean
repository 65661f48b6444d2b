/-
  Plain theory of trefoilref06.Same: pairs that must be matched, in a row; those before the k-th have been looked at.
-/
import Derived.Test.YtipehahfbcbigaaDMt
namespace Go.Proofs.Ytipehahfbcbigaa
namespace G

structure Rs (f g : Nat → Nd) (N M r s : Nat) (L : List (Nat × Nat)) (k : Nat) : Prop where
  lk : ∀ p, p ∈ L → p.1 < N ∧ p.2 < M ∧ Pr f g r s p.1 p.2
  nd : L.Nodup
  rt : (r, s) ∈ L
  le : k ≤ L.length
  dn : ∀ j, j < k → ∀ p, L[j]? = some p → (f p.1).alike (g p.2) ∧ ∀ q, q ∈ List.zip (f p.1).args (g p.2).args → q ∈ L

/-- A pair more, unless it was met. -/
def add1 (L : List (Nat × Nat)) (q : Nat × Nat) : List (Nat × Nat) := if q ∈ L then L else L ++ [q]
def addAll (L qs : List (Nat × Nat)) : List (Nat × Nat) := qs.foldl add1 L
theorem addAll_snoc (L l : List (Nat × Nat)) (q : Nat × Nat) : addAll L (l ++ [q]) = add1 (addAll L l) q := by
  unfold addAll
  rw [List.foldl_append]
  rfl
structure Added (L L' qs : List (Nat × Nat)) : Prop where
  pre : ∃ t, L' = L ++ t
  new : ∀ p, p ∈ qs → p ∈ L'
  from' : ∀ p, p ∈ L' → p ∈ L ∨ p ∈ qs
  nd : L.Nodup → L'.Nodup
theorem added_all (qs : List (Nat × Nat)) : ∀ L : List (Nat × Nat), Added L (addAll L qs) qs := by
  induction qs with
  | nil => intro L; exact ⟨⟨[], by simp [addAll]⟩, (fun _ h => by cases h), fun _ h => .inl h, fun h => h⟩
  | cons q qs ih =>
    intro L
    have h2 := ih (add1 L q)
    show Added L (addAll (add1 L q) qs) (q :: qs)
    unfold add1 at h2 ⊢
    obtain ⟨⟨t, ht⟩, h3, h4, h5⟩ := h2
    by_cases hq : q ∈ L
    · rw [if_pos hq] at ht h3 h4 h5 ⊢
      refine ⟨⟨t, ht⟩, fun p hp => ?_, fun p hp => ?_, h5⟩
      · rcases List.mem_cons.1 hp with e | e
        · subst e; rw [ht]; exact List.mem_append_left _ hq
        · exact h3 p e
      · rcases h4 p hp with e | e
        · exact .inl e
        · exact .inr (List.mem_cons_of_mem _ e)
    · rw [if_neg hq] at ht h3 h4 h5 ⊢
      refine ⟨⟨q :: t, by rw [ht]; simp⟩, fun p hp => ?_, fun p hp => ?_, fun hn => h5 ?_⟩
      · rcases List.mem_cons.1 hp with e | e
        · subst e; rw [ht]; simp
        · exact h3 p e
      · rcases h4 p hp with e | e
        · rcases List.mem_append.1 e with e | e
          · exact .inl e
          · simp at e; subst e; exact .inr (by simp)
        · exact .inr (List.mem_cons_of_mem _ e)
      · rw [List.nodup_append]
        refine ⟨hn, by simp, fun x hx y hy e => ?_⟩
        simp at hy
        subst hy
        exact hq (e ▸ hx)
section
variable {f g : Nat → Nd} {N M r s k : Nat} {L : List (Nat × Nat)}
theorem Rs.start (hr : r < N) (hs : s < M) : Rs f g N M r s [(r, s)] 0 := by
  refine ⟨fun p hp => ?_, by simp, by simp, by simp, fun j hj => by omega⟩
  simp at hp; subst hp; exact ⟨hr, hs, .root⟩
/-- The pairs that one leads to are as they ought to be. -/
theorem Rs.zip (hf : ∀ a, a < N → ∀ y, y ∈ (f a).args → y < N) (hg : ∀ b, b < M → ∀ y, y ∈ (g b).args → y < M) (h : Rs f g N M r s L k) {p : Nat × Nat} (hp : p ∈ L) : ∀ q, q ∈ List.zip (f p.1).args (g p.2).args → q.1 < N ∧ q.2 < M ∧ Pr f g r s q.1 q.2 := by
  intro q hq
  obtain ⟨h1, h2, h3⟩ := h.lk p hp
  obtain ⟨i, hi⟩ := List.getElem?_of_mem hq
  rw [List.getElem?_zip_eq_some] at hi
  exact ⟨hf _ h1 _ (List.mem_of_getElem? hi.1), hg _ h2 _ (List.mem_of_getElem? hi.2), .step h3 hi.1 hi.2⟩
theorem Rs.added (hf : ∀ a, a < N → ∀ y, y ∈ (f a).args → y < N) (hg : ∀ b, b < M → ∀ y, y ∈ (g b).args → y < M) (h : Rs f g N M r s L k) {p : Nat × Nat} (hp : L[k]? = some p) (hal : (f p.1).alike (g p.2)) :
    Rs f g N M r s (addAll L (List.zip (f p.1).args (g p.2).args)) (k + 1) := by
  obtain ⟨⟨t, ht⟩, h2, h3, h4⟩ := added_all (List.zip (f p.1).args (g p.2).args) L
  have hpm := List.mem_of_getElem? hp
  have hkl := (List.getElem?_eq_some_iff.1 hp).1
  refine ⟨fun q hq => ?_, h4 h.nd, by rw [ht]; exact List.mem_append_left _ h.rt, by rw [ht, List.length_append]; omega, fun j hj q hq => ?_⟩
  · rcases h3 q hq with e | e
    · exact h.lk q e
    · exact h.zip hf hg hpm q e
  · rw [ht, List.getElem?_append_left (by omega)] at hq
    by_cases e : j = k
    · subst e
      rw [hp] at hq
      injection hq with hq
      subst hq
      exact ⟨hal, h2⟩
    · obtain ⟨d1, d2⟩ := h.dn j (by omega) q hq
      exact ⟨d1, fun x hx => by rw [ht]; exact List.mem_append_left _ (d2 x hx)⟩
/-- All those that were met while a pair is looked at. -/
theorem Rs.during (hf : ∀ a, a < N → ∀ y, y ∈ (f a).args → y < N) (hg : ∀ b, b < M → ∀ y, y ∈ (g b).args → y < M) (h : Rs f g N M r s L k) {p : Nat × Nat} (hp : L[k]? = some p) (i : Nat) :
    (∀ q, q ∈ addAll L ((List.zip (f p.1).args (g p.2).args).take i) → q.1 < N ∧ q.2 < M) ∧ (addAll L ((List.zip (f p.1).args (g p.2).args).take i)).Nodup := by
  obtain ⟨_, _, h3, h4⟩ := added_all ((List.zip (f p.1).args (g p.2).args).take i) L
  refine ⟨fun q hq => ?_, h4 h.nd⟩
  rcases h3 q hq with e | e
  · exact ⟨(h.lk q e).1, (h.lk q e).2.1⟩
  · have := h.zip hf hg (List.mem_of_getElem? hp) q (List.mem_of_mem_take e)
    exact ⟨this.1, this.2.1⟩
theorem Rs.differ (h : Rs f g N M r s L k) {p : Nat × Nat} (hp : p ∈ L) (hal : ¬ (f p.1).alike (g p.2)) : ¬ Same f r g s := fun e => hal (e.1 _ _ (h.lk p hp).2.2)
theorem Rs.all (h : Rs f g N M r s L L.length) : ∀ a b, Pr f g r s a b → (a, b) ∈ L := by
  intro a b p
  induction p with
  | root => exact h.rt
  | step _ h1 h2 ih =>
    obtain ⟨j, hj⟩ := List.getElem?_of_mem ih
    have hjl := (List.getElem?_eq_some_iff.1 hj).1
    exact (h.dn j hjl _ hj).2 _ (List.mem_of_getElem? (by rw [List.getElem?_zip_eq_some]; exact ⟨h1, h2⟩))
theorem Rs.same (h : Rs f g N M r s L L.length) : Same f r g s ↔ ∀ p, p ∈ L → ∀ q, q ∈ L → (f p.1).free → (p.1 = q.1 ↔ p.2 = q.2) := by
  constructor
  · intro e p hp q hq hfr
    exact e.2 _ _ _ _ (h.lk p hp).2.2 (h.lk q hq).2.2 hfr
  · intro e
    refine ⟨fun a b p => ?_, fun a b a' b' p p' hfr => e _ (h.all _ _ p) _ (h.all _ _ p') hfr⟩
    obtain ⟨j, hj⟩ := List.getElem?_of_mem (h.all _ _ p)
    have hjl := (List.getElem?_eq_some_iff.1 hj).1
    exact (h.dn j hjl _ hj).1
end
end G
end Go.Proofs.Ytipehahfbcbigaa
