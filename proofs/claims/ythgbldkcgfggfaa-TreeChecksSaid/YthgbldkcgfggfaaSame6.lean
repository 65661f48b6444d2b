/-
  tree.Same, the plain part: two stacks go on being equal just when they were, as long as what was taken has the same fields.
-/
import Derived.Test.YthgbldkcgfggfaaSame4
import Derived.Test.YthgbldkcgfggfaaSame3
import Derived.Test.YthgbldkcgfggfaaCheck
namespace Go.Proofs.Ythgbldkcgfggfaa
open Go.RowKit

theorem mmsLoc_cons (a b : Mm) (r s : List Mm) : mmsLoc (a :: r) (b :: s) = true ↔ mmLoc a b = true ∧ mmsLoc r s = true := by
  simp [mmsLoc]
theorem mmsLoc_nil (r : List Mm) : mmsLoc [] r = true ↔ r = [] := by cases r <;> simp [mmsLoc]
theorem mmLoc_iff (a b : Mm) : mmLoc a b = true ↔ a.kind = b.kind ∧ a.name = b.name ∧ a.as' = b.as' ∧ a.args.length = b.args.length ∧ a.types.length = b.types.length := by simp [mmLoc]
theorem mm_eq (a b : Mm) (h : mmLoc a b = true) : a = b ↔ a.args = b.args ∧ a.types = b.types := by
  rw [mmLoc_iff] at h
  cases a; cases b
  simp only [Mm.kind, Mm.name, Mm.as', Mm.args, Mm.types] at h ⊢
  obtain ⟨rfl, rfl, rfl, _, _⟩ := h
  simp

theorem pushMs_eq : ∀ (l m : List Mm) (st s : List (List Ex × Int)) (T U : List (List Ty × Int)) (d : Int), mmsLoc l m = true → shp st = shp s → shp T = shp U →
    (shp (pushMs st d l) = shp (pushMs s d m) ∧ shp (pushTs T l) = shp (pushTs U m)) ∧ (pushMs st d l = pushMs s d m ∧ pushTs T l = pushTs U m ↔ st = s ∧ T = U ∧ l = m)
  | [], m, st, s, T, U, d, h, h1, h2 => by
    rw [mmsLoc_nil] at h
    subst h
    simp [pushMs, pushTs, h1, h2]
  | a :: l, [], st, s, T, U, d, h, h1, h2 => by simp [mmsLoc] at h
  | a :: l, b :: m, st, s, T, U, d, h, h1, h2 => by
    rw [mmsLoc_cons] at h
    have hl := (mmLoc_iff a b).1 h.1
    have ih := pushMs_eq l m (pushL st a.args d) (pushL s b.args d) (pushL T a.types 1) (pushL U b.types 1) d h.2 (shp_push_eq h1 hl.2.2.2.1) (shp_push_eq h2 hl.2.2.2.2)
    refine ⟨ih.1, ?_⟩
    simp only [pushMs, pushTs]
    rw [ih.2, push_inj h1 hl.2.2.2.1, push_inj h2 hl.2.2.2.2, List.cons.injEq, mm_eq a b h.1]
    constructor
    · rintro ⟨⟨e1, e2⟩, ⟨e3, e4⟩, e5⟩; exact ⟨e1, e3, ⟨e2, e4⟩, e5⟩
    · rintro ⟨e1, e3, ⟨e2, e4⟩, e5⟩; exact ⟨⟨e1, e2⟩, ⟨e3, e4⟩, e5⟩

theorem exLoc_iff (x y : Ex) : exLoc x y = true ↔ x.kind = y.kind ∧ x.str = y.str ∧ x.num = y.num ∧ x.args.length = y.args.length ∧ x.types.length = y.types.length ∧ x.names = y.names ∧ mmsLoc x.mems y.mems = true := by simp [exLoc]
theorem ex_eq (x y : Ex) (h : exLoc x y = true) : x = y ↔ x.args = y.args ∧ x.types = y.types ∧ x.mems = y.mems := by
  rw [exLoc_iff] at h
  cases x; cases y
  simp only [Ex.kind, Ex.str, Ex.num, Ex.names, Ex.args, Ex.types, Ex.mems] at h ⊢
  obtain ⟨rfl, rfl, rfl, _, _, rfl, _⟩ := h
  simp

theorem nextSt_eq {st s : List (List Ex × Int)} {T U : List (List Ty × Int)} {x y : Ex} {l m : List Ex} {d : Int} (hs : shp st = shp s) (hT : shp T = shp U) (hl : l.length = m.length) (h : exLoc x y = true) :
    (shp (nextSt st l d x) = shp (nextSt s m d y) ∧ shp (nextTT T x) = shp (nextTT U y)) ∧ (st ++ [(x :: l, d)] = s ++ [(y :: m, d)] ∧ T = U ↔ nextSt st l d x = nextSt s m d y ∧ nextTT T x = nextTT U y) := by
  have hh := (exLoc_iff x y).1 h
  have h1 := shp_push_eq (d := d) hs hl
  have h2 := shp_push_eq (d := d + 1) h1 hh.2.2.2.1
  have h3 := shp_push_eq (d := 1) hT hh.2.2.2.2.1
  have hp := pushMs_eq x.mems y.mems _ _ _ _ (d + 2) hh.2.2.2.2.2.2 h2 h3
  refine ⟨hp.1, ?_⟩
  unfold nextSt nextTT
  rw [hp.2, push_inj h1 hh.2.2.2.1, push_inj hs hl, push_inj hT hh.2.2.2.2.1]
  constructor
  · rintro ⟨e, rfl⟩
    have := List.append_inj' e rfl
    simp only [List.cons.injEq, Prod.mk.injEq, and_true] at this
    obtain ⟨rfl, rfl, rfl⟩ := this
    simp
  · rintro ⟨⟨⟨rfl, rfl⟩, e1⟩, ⟨rfl, e2⟩, e3⟩
    exact ⟨by rw [(ex_eq x y h).2 ⟨e1, e2, e3⟩], rfl⟩

theorem exLoc_refl (x : Ex) : exLoc x x = true := by
  have : ∀ l, mmsLoc l l = true := by
    intro l
    induction l with
    | nil => simp [mmsLoc]
    | cons a r ih => rw [mmsLoc_cons]; exact ⟨by rw [mmLoc_iff]; simp, ih⟩
  rw [exLoc_iff]
  simp [this]
theorem exLoc_ne {st s : List (List Ex × Int)} {x y : Ex} {l m : List Ex} {d : Int} (h : exLoc x y = false) : st ++ [(x :: l, d)] ≠ s ++ [(y :: m, d)] := by
  intro e
  have := List.append_inj' e rfl
  simp only [List.cons.injEq, Prod.mk.injEq, and_true] at this
  obtain ⟨_, rfl, _⟩ := this
  simp [exLoc_refl] at h

end Go.Proofs.Ythgbldkcgfggfaa
