/-
  tree.Same: four walks apart, two over terms and two over types.
-/
import Derived.Test.YthgbldkcgfggfaaSame7
namespace Go.Proofs.Ythgbldkcgfggfaa
open Go.RowKit

structure Four (w wr : World) (S1 S2 : Nat → Prop) (g1 g2 gA gB : Nat) (q1 q2 qA qB : Value) (t1 t2 : List (List Ex × Int)) (T U : List (List Ty × Int)) : Prop where
  w1 : WalkE wr S1 g1 q1 t1
  w2 : WalkE wr S2 g2 q2 t2
  wA : WalkT wr S1 gA qA T
  wB : WalkT wr S2 gB qB U
  ap : ∀ k, Own g1 q1 k → ¬ Own g2 q2 k
  aT : ∀ k, Own gA qA k → ¬ Own gB qB k
  d1 : ∀ k, Own g1 q1 k → ¬ S2 k
  d2 : ∀ k, Own g2 q2 k → ¬ S1 k
  dA : ∀ k, Own gA qA k → ¬ S2 k
  dB : ∀ k, Own gB qB k → ¬ S1 k
  f1 : Fresh w.heap.size g1 q1
  f2 : Fresh w.heap.size g2 q2
  fA : Fresh w.heap.size gA qA
  fB : Fresh w.heap.size gB qB
  hb : Below w.heap.size w wr

variable {w wr w' : World} {S1 S2 : Nat → Prop} {g1 g2 gA gB : Nat} {q1 q2 qA qB q : Value} {t1 t2 t : List (List Ex × Int)} {T U V : List (List Ty × Int)}

theorem Four.step1 (h : Four w wr S1 S2 g1 g2 gA gB q1 q2 qA qB t1 t2 T U) (hw : WalkE w' S1 g1 q t) (hs : Step wr w' g1 q1 q) : Four w w' S1 S2 g1 g2 gA gB q q2 qA qB t t2 T U where
  w1 := hw
  w2 := h.w2.keep hs.keeps (fun k _ hk => ⟨h.d1 k hk, h.ap k hk⟩)
  wA := h.wA.keep hs.keeps (fun k _ hk => ⟨fun e => h.w1.apart k e hk, apart_ET h.w1 h.wA k hk⟩)
  wB := h.wB.keep hs.keeps (fun k _ hk => ⟨h.d1 k hk, apart_ET h.w1 h.wB k hk⟩)
  ap := hs.apart h.ap (Own.lt_E h.w2)
  aT := h.aT
  d1 := hs.apart h.d1 h.w2.old
  d2 := h.d2
  dA := h.dA
  dB := h.dB
  f1 := h.f1.step hs h.hb.size
  f2 := h.f2
  fA := h.fA
  fB := h.fB
  hb := h.hb.trans (hs.below h.f1 h.hb.size)
theorem Four.step2 (h : Four w wr S1 S2 g1 g2 gA gB q1 q2 qA qB t1 t2 T U) (hw : WalkE w' S2 g2 q t) (hs : Step wr w' g2 q2 q) : Four w w' S1 S2 g1 g2 gA gB q1 q qA qB t1 t T U where
  w1 := h.w1.keep hs.keeps (fun k _ hk => ⟨h.d2 k hk, fun e => h.ap k e hk⟩)
  w2 := hw
  wA := h.wA.keep hs.keeps (fun k _ hk => ⟨h.d2 k hk, apart_ET h.w2 h.wA k hk⟩)
  wB := h.wB.keep hs.keeps (fun k _ hk => ⟨fun e => h.w2.apart k e hk, apart_ET h.w2 h.wB k hk⟩)
  ap := fun k e hk => hs.apart (fun k a b => h.ap k b a) (Own.lt_E h.w1) k hk e
  aT := h.aT
  d1 := h.d1
  d2 := hs.apart h.d2 h.w1.old
  dA := h.dA
  dB := h.dB
  f1 := h.f1
  f2 := h.f2.step hs h.hb.size
  fA := h.fA
  fB := h.fB
  hb := h.hb.trans (hs.below h.f2 h.hb.size)
theorem Four.stepA (h : Four w wr S1 S2 g1 g2 gA gB q1 q2 qA qB t1 t2 T U) (hw : WalkT w' S1 gA q V) (hs : Step wr w' gA qA q) : Four w w' S1 S2 g1 g2 gA gB q1 q2 q qB t1 t2 V U where
  w1 := h.w1.keep hs.keeps (fun k _ hk => ⟨fun e => h.wA.apart k e hk, fun e => apart_ET h.w1 h.wA k e hk⟩)
  w2 := h.w2.keep hs.keeps (fun k _ hk => ⟨h.dA k hk, fun e => apart_ET h.w2 h.wA k e hk⟩)
  wA := hw
  wB := h.wB.keep hs.keeps (fun k _ hk => ⟨h.dA k hk, h.aT k hk⟩)
  ap := h.ap
  aT := hs.apart h.aT (Own.lt_T h.wB)
  d1 := h.d1
  d2 := h.d2
  dA := hs.apart h.dA h.w2.old
  dB := h.dB
  f1 := h.f1
  f2 := h.f2
  fA := h.fA.step hs h.hb.size
  fB := h.fB
  hb := h.hb.trans (hs.below h.fA h.hb.size)
theorem Four.stepB (h : Four w wr S1 S2 g1 g2 gA gB q1 q2 qA qB t1 t2 T U) (hw : WalkT w' S2 gB q V) (hs : Step wr w' gB qB q) : Four w w' S1 S2 g1 g2 gA gB q1 q2 qA q t1 t2 T V where
  w1 := h.w1.keep hs.keeps (fun k _ hk => ⟨h.dB k hk, fun e => apart_ET h.w1 h.wB k e hk⟩)
  w2 := h.w2.keep hs.keeps (fun k _ hk => ⟨fun e => h.wB.apart k e hk, fun e => apart_ET h.w2 h.wB k e hk⟩)
  wA := h.wA.keep hs.keeps (fun k _ hk => ⟨h.dB k hk, fun e => h.aT k e hk⟩)
  wB := hw
  ap := h.ap
  aT := fun k e hk => hs.apart (fun k a b => h.aT k b a) (Own.lt_T h.wA) k hk e
  d1 := h.d1
  d2 := h.d2
  dA := h.dA
  dB := hs.apart h.dB h.w1.old
  f1 := h.f1
  f2 := h.f2
  fA := h.fA
  fB := h.fB.step hs h.hb.size
  hb := h.hb.trans (hs.below h.fB h.hb.size)
theorem Four.later (h : Four w wr S1 S2 g1 g2 gA gB q1 q2 qA qB t1 t2 T U) (hb : Below wr.heap.size wr w') : Four w w' S1 S2 g1 g2 gA gB q1 q2 qA qB t1 t2 T U where
  w1 := h.w1.keep (T := fun _ => False) (Keeps.of_below0 hb) (fun _ _ h => h.elim)
  w2 := h.w2.keep (T := fun _ => False) (Keeps.of_below0 hb) (fun _ _ h => h.elim)
  wA := h.wA.keep (T := fun _ => False) (Keeps.of_below0 hb) (fun _ _ h => h.elim)
  wB := h.wB.keep (T := fun _ => False) (Keeps.of_below0 hb) (fun _ _ h => h.elim)
  ap := h.ap
  aT := h.aT
  d1 := h.d1
  d2 := h.d2
  dA := h.dA
  dB := h.dB
  f1 := h.f1
  f2 := h.f2
  fA := h.fA
  fB := h.fB
  hb := h.hb.trans (hb.mono h.hb.size)

/-- At the loop's start. -/
theorem Ready.four {wB W : World} {S1' S2' : Nat → Prop} {x y : Ex} (h : Ready wB W S1 S2 S1' S2' g1 g2 q1 q2 x y) (hS1 : ∀ k, S1 k → k < w.heap.size) (hS2 : ∀ k, S2 k → k < w.heap.size) (hB : Below w.heap.size w wB) (hz : wB.heap.size = w.heap.size + 4)
    (hA : Box wB (w.heap.size + 1 + 1) 58 (.slice none 0 0)) (hb : Box wB (w.heap.size + 1 + 1 + 1) 58 (.slice none 0 0)) :
    Four w W S1' S2' g1 g2 (w.heap.size + 1 + 1) (w.heap.size + 1 + 1 + 1) q1 q2 (.slice none 0 0) (.slice none 0 0) [([x], 1)] [([y], 1)] [] [] := by
  have no : ∀ k, (Value.slice none 0 0).ownBlock ≠ some k := fun k hk => by simp [Value.ownBlock] at hk
  have n1 : ∀ k, (k = w.heap.size + 1 + 1 ∨ k = w.heap.size + 1 + 1 + 1) → ¬ S1' k := by
    rintro k hk hs
    rcases h.o1 k hs with e | e
    · have := hS1 k e; omega
    · omega
  have n2 : ∀ k, (k = w.heap.size + 1 + 1 ∨ k = w.heap.size + 1 + 1 + 1) → ¬ S2' k := by
    rintro k hk hs
    rcases h.o2 k hs with e | e
    · have := hS2 k e; omega
    · omega
  exact {
    w1 := h.w1
    w2 := h.w2
    wA := ⟨⟨[], ⟨hA.below h.hb, World.ownsRow_nil _ _ _ _⟩, rfl⟩, fun k hk e => by
      rcases e with e | e
      · exact n1 k (.inl e) hk
      · exact no k e, h.w1.old⟩
    wB := ⟨⟨[], ⟨hb.below h.hb, World.ownsRow_nil _ _ _ _⟩, rfl⟩, fun k hk e => by
      rcases e with e | e
      · exact n2 k (.inr e) hk
      · exact no k e, h.w2.old⟩
    ap := h.ap
    aT := fun k a b => by
      rcases a with a | a
      · rcases b with b | b
        · omega
        · exact no k b
      · exact no k a
    d1 := h.d1
    d2 := h.d2
    dA := fun k a hs => by
      rcases a with a | a
      · exact n2 k (.inl a) hs
      · exact no k a
    dB := fun k a hs => by
      rcases a with a | a
      · exact n1 k (.inr a) hs
      · exact no k a
    f1 := h.f1.mono hB.size
    f2 := h.f2.mono hB.size
    fA := ⟨by omega, fun k hk => (no k hk).elim⟩
    fB := ⟨by omega, fun k hk => (no k hk).elim⟩
    hb := hB.trans (h.hb.mono hB.size) }

end Go.Proofs.Ythgbldkcgfggfaa
