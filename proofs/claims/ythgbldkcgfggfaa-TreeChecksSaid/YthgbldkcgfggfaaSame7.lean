/-
  tree.Same: both walks over the terms stand.
-/
import Derived.Test.YthgbldkcgfggfaaSame5
import Derived.Test.YthgbldkcgfggfaaSame6
namespace Go.Proofs.Ythgbldkcgfggfaa
open Go.RowKit

/-- start once more, from any world that has what w0 had. -/
theorem startE_at (w0 w : World) (S : Nat → Prop) (e0 : Ex) (ev : Value) (hS : ∀ k, S k → k < w0.heap.size) (he : ExV w0 S e0 ev) (hb : BelC w0 w) :
    Calls Try.prog 28 #[ev] w fun e w' => ∃ A c, e = .returned (.agg #[.slice A 1 c]) ∧ ∃ S', (∀ k, S k → S' k) ∧ (∀ k, S' k → S k ∨ w.heap.size ≤ k) ∧ RowE w' S' (.slice A 1 c) [([e0], 1)] ∧ BelC w0 w' ∧ Below w.heap.size w w' ∧ (∀ k, (Value.slice A 1 c).ownBlock = some k → w.heap.size ≤ k) := by
  refine (startE w S e0 ev (fun k hk => Nat.lt_of_lt_of_le (hS k hk) hb.size) (ExV.keep (fun k hk => ⟨hk, hb.block k (hS k hk)⟩) _ _ he)).mono ?_
  rintro e w' ⟨v, S', he, h1, h2, h3, h4, h5⟩
  obtain ⟨A, c, rfl⟩ := h3.form
  exact ⟨A, c, he, S', h1, h2, h3, Below.trans hb (h4.mono hb.size), h4, h5⟩

/-- Two walks' rows that were made one behind the other, each in a variable of its own. -/
theorem two_walksE {wB wc1 wc2 W : World} {L1 L2 g1 g2 : Nat} {S1 S2 S1' S2' : Nat → Prop} {v1 v2 : Value} {x y : Ex} (hS1 : ∀ k, S1 k → k < wB.heap.size) (hS2 : ∀ k, S2 k → k < wB.heap.size)
    (h12 : ∀ k, S1' k → S1 k ∨ L1 ≤ k) (h22 : ∀ k, S2' k → S2 k ∨ L2 ≤ k) (hr1 : RowE wc1 S1' v1 [([x], 1)]) (hr2 : RowE wc2 S2' v2 [([y], 1)])
    (ho1 : ∀ k, v1.ownBlock = some k → L1 ≤ k) (ho2 : ∀ k, v2.ownBlock = some k → L2 ≤ k) (hL1 : wB.heap.size ≤ L1) (hL2 : wc1.heap.size ≤ L2) (hLc : L1 ≤ wc1.heap.size) (hb12 : Below wc1.heap.size wc1 wc2)
    (hK : Keeps (fun k => k = g1 ∨ k = g2) wc2 W) (hB1 : Box W g1 61 v1) (hB2 : Box W g2 61 v2) (hne : g1 ≠ g2)
    (hg1 : wB.heap.size ≤ g1 ∧ (g1 < L1 ∨ wc1.heap.size ≤ g1) ∧ (g1 < L2 ∨ wc2.heap.size ≤ g1)) (hg2 : wB.heap.size ≤ g2 ∧ (g2 < L1 ∨ wc1.heap.size ≤ g2) ∧ (g2 < L2 ∨ wc2.heap.size ≤ g2)) :
    WalkE W S1' g1 v1 [([x], 1)] ∧ WalkE W S2' g2 v2 [([y], 1)] ∧ (∀ k, Own g1 v1 k → ¬ Own g2 v2 k) ∧ (∀ k, Own g1 v1 k → ¬ S2' k) ∧ (∀ k, Own g2 v2 k → ¬ S1' k) ∧ Fresh wB.heap.size g1 v1 ∧ Fresh wB.heap.size g2 v2 := by
  have lt1 : ∀ k, v1.ownBlock = some k → k < wc1.heap.size := by
    obtain ⟨xs, h, _⟩ := hr1.raw
    exact fun k hk => (h.lt k hk).2
  have lt2 : ∀ k, v2.ownBlock = some k → k < wc2.heap.size := by
    obtain ⟨xs, h, _⟩ := hr2.raw
    exact fun k hk => (h.lt k hk).2
  have s12 := hb12.size
  have hr1c : RowE wc2 S1' v1 [([x], 1)] := hr1.keep (T := fun _ => False) (Keeps.of_below0 hb12) (fun _ h => h.elim)
  have nS1 : ∀ k, (k = g1 ∨ k = g2) → ¬ S1' k := by
    rintro k hk hs
    have h1 := hr1.old k hs
    rcases h12 k hs with h | h
    · have := hS1 k h; omega
    · omega
  have nS2 : ∀ k, (k = g1 ∨ k = g2) → ¬ S2' k := by
    rintro k hk hs
    have h1 := hr2.old k hs
    rcases h22 k hs with h | h
    · have := hS2 k h; omega
    · omega
  have n1 : ∀ k, (k = g1 ∨ k = g2) → v1.ownBlock ≠ some k := fun k hk e => by have h1 := ho1 k e; have h2 := lt1 k e; omega
  have n2 : ∀ k, (k = g1 ∨ k = g2) → v2.ownBlock ≠ some k := fun k hk e => by have h1 := ho2 k e; have h2 := lt2 k e; omega
  have hR1 := hr1c.keep hK (fun k hk => ⟨nS1 k hk, n1 k hk⟩)
  have hR2 := hr2.keep hK (fun k hk => ⟨nS2 k hk, n2 k hk⟩)
  obtain ⟨x1, r1, l1⟩ := hR1.raw
  obtain ⟨x2, r2, l2⟩ := hR2.raw
  refine ⟨⟨⟨x1, ⟨hB1, r1⟩, l1⟩, ?_, hR1.old⟩, ⟨⟨x2, ⟨hB2, r2⟩, l2⟩, ?_, hR2.old⟩, ?_, ?_, ?_, ⟨hg1.1, fun k hk => by have := ho1 k hk; omega⟩, ⟨hg2.1, fun k hk => by have := ho2 k hk; omega⟩⟩
  · rintro k hs (e | e)
    · exact nS1 k (.inl e) hs
    · exact hR1.apart k hs e
  · rintro k hs (e | e)
    · exact nS2 k (.inr e) hs
    · exact hR2.apart k hs e
  · rintro k (e | e) (e' | e')
    · omega
    · exact n2 k (.inl e) e'
    · exact n1 k (.inr e') e
    · have h1 := lt1 k e; have h2 := ho2 k e'; omega
  · rintro k (e | e) hs
    · exact nS2 k (.inl e) hs
    · have h1 := lt1 k e
      have h3 := ho1 k e
      rcases h22 k hs with h | h
      · have := hS2 k h; omega
      · omega
  · rintro k (e | e) hs
    · exact nS1 k (.inr e) hs
    · have h1 := ho2 k e
      have h2 := hr1.old k hs
      omega


/-- What holds when both walks over the terms stand. -/
structure Ready (wB W : World) (S1 S2 S1' S2' : Nat → Prop) (g1 g2 : Nat) (v1 v2 : Value) (x y : Ex) : Prop where
  w1 : WalkE W S1' g1 v1 [([x], 1)]
  w2 : WalkE W S2' g2 v2 [([y], 1)]
  ap : ∀ k, Own g1 v1 k → ¬ Own g2 v2 k
  d1 : ∀ k, Own g1 v1 k → ¬ S2' k
  d2 : ∀ k, Own g2 v2 k → ¬ S1' k
  f1 : Fresh wB.heap.size g1 v1
  f2 : Fresh wB.heap.size g2 v2
  hb : BelC wB W
  o1 : ∀ k, S1' k → S1 k ∨ wB.heap.size ≤ k
  o2 : ∀ k, S2' k → S2 k ∨ wB.heap.size ≤ k

theorem ready_at {wB wc1 wc2 W : World} {L1 L2 g1 g2 : Nat} {S1 S2 S1' S2' : Nat → Prop} {v1 v2 : Value} {x y : Ex} (hS1 : ∀ k, S1 k → k < wB.heap.size) (hS2 : ∀ k, S2 k → k < wB.heap.size)
    (h12 : ∀ k, S1' k → S1 k ∨ L1 ≤ k) (h22 : ∀ k, S2' k → S2 k ∨ L2 ≤ k) (hr1 : RowE wc1 S1' v1 [([x], 1)]) (hr2 : RowE wc2 S2' v2 [([y], 1)])
    (ho1 : ∀ k, v1.ownBlock = some k → L1 ≤ k) (ho2 : ∀ k, v2.ownBlock = some k → L2 ≤ k) (hb12 : Below wc1.heap.size wc1 wc2)
    (hb : BelC wB W) (hK : Keeps (fun k => k = g1 ∨ k = g2) wc2 W) (hB1 : Box W g1 61 v1) (hB2 : Box W g2 61 v2)
    (hnum : wB.heap.size ≤ L1 ∧ wc1.heap.size ≤ L2 ∧ L1 ≤ wc1.heap.size ∧ g1 ≠ g2 ∧ (wB.heap.size ≤ g1 ∧ (g1 < L1 ∨ wc1.heap.size ≤ g1) ∧ (g1 < L2 ∨ wc2.heap.size ≤ g1)) ∧ (wB.heap.size ≤ g2 ∧ (g2 < L1 ∨ wc1.heap.size ≤ g2) ∧ (g2 < L2 ∨ wc2.heap.size ≤ g2))) :
    Ready wB W S1 S2 S1' S2' g1 g2 v1 v2 x y := by
  obtain ⟨h1, h2, h3, h4, h5, f1, f2⟩ := two_walksE hS1 hS2 h12 h22 hr1 hr2 ho1 ho2 hnum.1 hnum.2.1 hnum.2.2.1 hb12 hK hB1 hB2 hnum.2.2.2.1 hnum.2.2.2.2.1 hnum.2.2.2.2.2
  exact ⟨h1, h2, h3, h4, h5, f1, f2, hb, fun k hk => (h12 k hk).imp id (fun h => Nat.le_trans hnum.1 h), fun k hk => (h22 k hk).imp id (fun h => by have := hnum.1; have := hnum.2.1; have := hnum.2.2.1; omega)⟩

end Go.Proofs.Ythgbldkcgfggfaa
