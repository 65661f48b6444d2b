/-
  tree.memberMayBe, membersMayBe and typeMayBe: what they answer, kind by kind. (Made by gen_mm.py.)
-/
import Derived.Test.YthgbldkcgfggfaaMaybe
namespace Go.Proofs.Ythgbldkcgfggfaa
open Go.RowKit

theorem Below.drewN' {B : Nat} {a w : World} (h : Below B a w) (n : Nat) : Below B a (w.drewN n) := ⟨h.os, h.tape, h.output, h.size, h.block⟩

/-- Whether a member's own fields are as its kind has them. -/
def mmOk : Mm → Bool
  | .mk k name as' args types =>
    if k = 1 then ((decide (as'.size = 0) || Pl.nameB as'.data.toList) && (Pl.nameB name.data.toList && decide (types.length = 0))) else
    if k = 2 ∨ k = 3 then (decide (args.length = 1) && (Pl.nameB name.data.toList && (decide (as'.size = 0) && decide (types.length = 0)))) else
    if k = 4 then (decide (types.length = 1) && (Pl.nameB name.data.toList && (decide (as'.size = 0) && decide (args.length = 0)))) else
    false

def wordB' (l : List UInt8) : Bool := Pl.nameB l || Pl.keyB l

/-- Whether a type's own fields are as its kind has them. -/
def tyOk : Ty → Bool
  | .mk k s args labels op =>
    if k = 4 then (decide (args.length = 1) && (wordB' s.data.toList && (decide (labels.length = 0) && !op))) else
    if k = 1 then (wordB' s.data.toList && (decide (args.length = 0) && (decide (labels.length = 0) && !op))) else
    if k = 2 then ((argsOfB s.data.toList).isSome && (decide (args.length = (argsOfB s.data.toList).getD 0) && (decide (labels.length = 0) && !op))) else
    if k = 3 then (decide (args.length = labels.length) && (risesB labels && (namesB labels && decide (s.size = 0)))) else
    false

set_option maxRecDepth 100000 in
set_option maxHeartbeats 1000000 in
theorem memberMayBe_1a (w : World) (name as' : ByteArray) (args : List Ex) (types : List Ty) (aA aT : Option Addr) (cA cT : Nat) (r : Bool) (_hn : name.size ≤ maxLen) (_ha : as'.size ≤ maxLen)
    (he : as'.toList = []) (hr : (Pl.nameB name.data.toList && decide (types.length = 0)) = r) :
    Calls Try.prog 54 #[.agg #[.int .i64 1, .string name, .string as', .slice aA args.length cA, .slice aT types.length cT]] w fun e w' => e = .returned (.bool r) ∧ Below w.heap.size w w' := by
  rcases hc0 : Pl.nameB name.data.toList with _ | _
  · rw [hc0, Bool.false_and] at hr
    subst hr
    have H0 := Lib.hid hc0
    clear hc0
    go_enter Try.func54, Try.ntmps54
    repeat (first | (with_reducible refine then_exit ?_) | (with_reducible refine then_normal ?_) | (with_reducible refine then_ret ?_) | (with_reducible refine leave_eq ?_) | (with_reducible refine leave_normal ?_) | (with_reducible refine leave_ret ?_) | (with_reducible refine leave_ne (by decide) ?_) | go_values | go_skip | go_guarded | go_step)
    refine (isName_r name _ H0.out _ _hn).mono ?_
    rintro e w1 ⟨rfl, rfl⟩
    dsimp only
    repeat (first | (with_reducible refine then_exit ?_) | (with_reducible refine then_normal ?_) | (with_reducible refine then_ret ?_) | (with_reducible refine leave_eq ?_) | (with_reducible refine leave_normal ?_) | (with_reducible refine leave_ret ?_) | (with_reducible refine leave_ne (by decide) ?_) | go_values | go_skip | go_guarded | go_step)
    go_ret
    exact ⟨rfl, by repeat (first | exact (Below.refl _ _).alloc (Nat.le_refl _) _ | refine Below.drewN' ?_ _ | refine Below.setCell ?_ (by simp) _)⟩
  rw [hc0, Bool.true_and] at hr
  have H0 := Lib.hid hc0
  clear hc0
  rcases hc1 : decide (types.length = 0) with _ | _
  · rw [hc1] at hr
    subst hr
    have H1 := Lib.hid hc1
    clear hc1
    have T1 : ((types.length : Int) == 0) = false := by have := H1.out; simp at this ⊢; omega
    go_enter Try.func54, Try.ntmps54
    repeat (first | (with_reducible refine then_exit ?_) | (with_reducible refine then_normal ?_) | (with_reducible refine then_ret ?_) | (with_reducible refine leave_eq ?_) | (with_reducible refine leave_normal ?_) | (with_reducible refine leave_ret ?_) | (with_reducible refine leave_ne (by decide) ?_) | go_values | go_skip | go_guarded | go_step)
    refine (isName_r name _ H0.out _ _hn).mono ?_
    rintro e w1 ⟨rfl, rfl⟩
    dsimp only
    repeat (first | (with_reducible refine then_exit ?_) | (with_reducible refine then_normal ?_) | (with_reducible refine then_ret ?_) | (with_reducible refine leave_eq ?_) | (with_reducible refine leave_normal ?_) | (with_reducible refine leave_ret ?_) | (with_reducible refine leave_ne (by decide) ?_) | go_values | go_skip | go_guarded | go_step)
    go_ret
    exact ⟨rfl, by repeat (first | exact (Below.refl _ _).alloc (Nat.le_refl _) _ | refine Below.drewN' ?_ _ | refine Below.setCell ?_ (by simp) _)⟩
  rw [hc1] at hr
  have H1 := Lib.hid hc1
  clear hc1
  have T1 : ((types.length : Int) == 0) = true := by have := H1.out; simp at this ⊢; omega
  subst hr
  go_enter Try.func54, Try.ntmps54
  repeat (first | (with_reducible refine then_exit ?_) | (with_reducible refine then_normal ?_) | (with_reducible refine then_ret ?_) | (with_reducible refine leave_eq ?_) | (with_reducible refine leave_normal ?_) | (with_reducible refine leave_ret ?_) | (with_reducible refine leave_ne (by decide) ?_) | go_values | go_skip | go_guarded | go_step)
  refine (isName_r name _ H0.out _ _hn).mono ?_
  rintro e w1 ⟨rfl, rfl⟩
  dsimp only
  repeat (first | (with_reducible refine then_exit ?_) | (with_reducible refine then_normal ?_) | (with_reducible refine then_ret ?_) | (with_reducible refine leave_eq ?_) | (with_reducible refine leave_normal ?_) | (with_reducible refine leave_ret ?_) | (with_reducible refine leave_ne (by decide) ?_) | go_values | go_skip | go_guarded | go_step)
  go_ret
  exact ⟨rfl, by repeat (first | exact (Below.refl _ _).alloc (Nat.le_refl _) _ | refine Below.drewN' ?_ _ | refine Below.setCell ?_ (by simp) _)⟩

set_option maxRecDepth 100000 in
set_option maxHeartbeats 1000000 in
theorem memberMayBe_1b (w : World) (name as' : ByteArray) (args : List Ex) (types : List Ty) (aA aT : Option Addr) (cA cT : Nat) (r : Bool) (_hn : name.size ≤ maxLen) (_ha : as'.size ≤ maxLen)
    (he : as'.toList.isEmpty = false) (hr : (Pl.nameB as'.data.toList && (Pl.nameB name.data.toList && decide (types.length = 0))) = r) :
    Calls Try.prog 54 #[.agg #[.int .i64 1, .string name, .string as', .slice aA args.length cA, .slice aT types.length cT]] w fun e w' => e = .returned (.bool r) ∧ Below w.heap.size w w' := by
  rcases hc0 : Pl.nameB as'.data.toList with _ | _
  · rw [hc0, Bool.false_and] at hr
    subst hr
    have H0 := Lib.hid hc0
    clear hc0
    go_enter Try.func54, Try.ntmps54
    repeat (first | (with_reducible refine then_exit ?_) | (with_reducible refine then_normal ?_) | (with_reducible refine then_ret ?_) | (with_reducible refine leave_eq ?_) | (with_reducible refine leave_normal ?_) | (with_reducible refine leave_ret ?_) | (with_reducible refine leave_ne (by decide) ?_) | go_values | go_skip | go_guarded | go_step)
    refine (takeName_r _ _ as' _ _ (by simp) (by simp) H0.out _ha).mono ?_
    rintro e w1 ⟨rfl, rfl⟩
    dsimp only
    repeat (first | (with_reducible refine then_exit ?_) | (with_reducible refine then_normal ?_) | (with_reducible refine then_ret ?_) | (with_reducible refine leave_eq ?_) | (with_reducible refine leave_normal ?_) | (with_reducible refine leave_ret ?_) | (with_reducible refine leave_ne (by decide) ?_) | go_values | go_skip | go_guarded | go_step)
    go_ret
    exact ⟨rfl, by repeat (first | exact (Below.refl _ _).alloc (Nat.le_refl _) _ | refine Below.drewN' ?_ _ | refine Below.setCell ?_ (by simp) _)⟩
  rw [hc0, Bool.true_and] at hr
  have H0 := Lib.hid hc0
  clear hc0
  rcases hc1 : Pl.nameB name.data.toList with _ | _
  · rw [hc1, Bool.false_and] at hr
    subst hr
    have H1 := Lib.hid hc1
    clear hc1
    go_enter Try.func54, Try.ntmps54
    repeat (first | (with_reducible refine then_exit ?_) | (with_reducible refine then_normal ?_) | (with_reducible refine then_ret ?_) | (with_reducible refine leave_eq ?_) | (with_reducible refine leave_normal ?_) | (with_reducible refine leave_ret ?_) | (with_reducible refine leave_ne (by decide) ?_) | go_values | go_skip | go_guarded | go_step)
    refine (takeName_r _ _ as' _ _ (by simp) (by simp) H0.out _ha).mono ?_
    rintro e w1 ⟨rfl, rfl⟩
    dsimp only
    repeat (first | (with_reducible refine then_exit ?_) | (with_reducible refine then_normal ?_) | (with_reducible refine then_ret ?_) | (with_reducible refine leave_eq ?_) | (with_reducible refine leave_normal ?_) | (with_reducible refine leave_ret ?_) | (with_reducible refine leave_ne (by decide) ?_) | go_values | go_skip | go_guarded | go_step)
    refine (isName_r name _ H1.out _ _hn).mono ?_
    rintro e w1 ⟨rfl, rfl⟩
    dsimp only
    repeat (first | (with_reducible refine then_exit ?_) | (with_reducible refine then_normal ?_) | (with_reducible refine then_ret ?_) | (with_reducible refine leave_eq ?_) | (with_reducible refine leave_normal ?_) | (with_reducible refine leave_ret ?_) | (with_reducible refine leave_ne (by decide) ?_) | go_values | go_skip | go_guarded | go_step)
    go_ret
    exact ⟨rfl, by repeat (first | exact (Below.refl _ _).alloc (Nat.le_refl _) _ | refine Below.drewN' ?_ _ | refine Below.setCell ?_ (by simp) _)⟩
  rw [hc1, Bool.true_and] at hr
  have H1 := Lib.hid hc1
  clear hc1
  rcases hc2 : decide (types.length = 0) with _ | _
  · rw [hc2] at hr
    subst hr
    have H2 := Lib.hid hc2
    clear hc2
    have T2 : ((types.length : Int) == 0) = false := by have := H2.out; simp at this ⊢; omega
    go_enter Try.func54, Try.ntmps54
    repeat (first | (with_reducible refine then_exit ?_) | (with_reducible refine then_normal ?_) | (with_reducible refine then_ret ?_) | (with_reducible refine leave_eq ?_) | (with_reducible refine leave_normal ?_) | (with_reducible refine leave_ret ?_) | (with_reducible refine leave_ne (by decide) ?_) | go_values | go_skip | go_guarded | go_step)
    refine (takeName_r _ _ as' _ _ (by simp) (by simp) H0.out _ha).mono ?_
    rintro e w1 ⟨rfl, rfl⟩
    dsimp only
    repeat (first | (with_reducible refine then_exit ?_) | (with_reducible refine then_normal ?_) | (with_reducible refine then_ret ?_) | (with_reducible refine leave_eq ?_) | (with_reducible refine leave_normal ?_) | (with_reducible refine leave_ret ?_) | (with_reducible refine leave_ne (by decide) ?_) | go_values | go_skip | go_guarded | go_step)
    refine (isName_r name _ H1.out _ _hn).mono ?_
    rintro e w1 ⟨rfl, rfl⟩
    dsimp only
    repeat (first | (with_reducible refine then_exit ?_) | (with_reducible refine then_normal ?_) | (with_reducible refine then_ret ?_) | (with_reducible refine leave_eq ?_) | (with_reducible refine leave_normal ?_) | (with_reducible refine leave_ret ?_) | (with_reducible refine leave_ne (by decide) ?_) | go_values | go_skip | go_guarded | go_step)
    go_ret
    exact ⟨rfl, by repeat (first | exact (Below.refl _ _).alloc (Nat.le_refl _) _ | refine Below.drewN' ?_ _ | refine Below.setCell ?_ (by simp) _)⟩
  rw [hc2] at hr
  have H2 := Lib.hid hc2
  clear hc2
  have T2 : ((types.length : Int) == 0) = true := by have := H2.out; simp at this ⊢; omega
  subst hr
  go_enter Try.func54, Try.ntmps54
  repeat (first | (with_reducible refine then_exit ?_) | (with_reducible refine then_normal ?_) | (with_reducible refine then_ret ?_) | (with_reducible refine leave_eq ?_) | (with_reducible refine leave_normal ?_) | (with_reducible refine leave_ret ?_) | (with_reducible refine leave_ne (by decide) ?_) | go_values | go_skip | go_guarded | go_step)
  refine (takeName_r _ _ as' _ _ (by simp) (by simp) H0.out _ha).mono ?_
  rintro e w1 ⟨rfl, rfl⟩
  dsimp only
  repeat (first | (with_reducible refine then_exit ?_) | (with_reducible refine then_normal ?_) | (with_reducible refine then_ret ?_) | (with_reducible refine leave_eq ?_) | (with_reducible refine leave_normal ?_) | (with_reducible refine leave_ret ?_) | (with_reducible refine leave_ne (by decide) ?_) | go_values | go_skip | go_guarded | go_step)
  refine (isName_r name _ H1.out _ _hn).mono ?_
  rintro e w1 ⟨rfl, rfl⟩
  dsimp only
  repeat (first | (with_reducible refine then_exit ?_) | (with_reducible refine then_normal ?_) | (with_reducible refine then_ret ?_) | (with_reducible refine leave_eq ?_) | (with_reducible refine leave_normal ?_) | (with_reducible refine leave_ret ?_) | (with_reducible refine leave_ne (by decide) ?_) | go_values | go_skip | go_guarded | go_step)
  go_ret
  exact ⟨rfl, by repeat (first | exact (Below.refl _ _).alloc (Nat.le_refl _) _ | refine Below.drewN' ?_ _ | refine Below.setCell ?_ (by simp) _)⟩

set_option maxRecDepth 100000 in
set_option maxHeartbeats 1000000 in
theorem memberMayBe_2 (w : World) (name as' : ByteArray) (args : List Ex) (types : List Ty) (aA aT : Option Addr) (cA cT : Nat) (r : Bool) (_hn : name.size ≤ maxLen) (_ha : as'.size ≤ maxLen)
    (hr : (decide (args.length = 1) && (Pl.nameB name.data.toList && (decide (as'.size = 0) && decide (types.length = 0)))) = r) :
    Calls Try.prog 54 #[.agg #[.int .i64 2, .string name, .string as', .slice aA args.length cA, .slice aT types.length cT]] w fun e w' => e = .returned (.bool r) ∧ Below w.heap.size w w' := by
  rcases hc0 : decide (args.length = 1) with _ | _
  · rw [hc0, Bool.false_and] at hr
    subst hr
    have H0 := Lib.hid hc0
    clear hc0
    go_enter Try.func54, Try.ntmps54
    repeat (first | (with_reducible refine then_exit ?_) | (with_reducible refine then_normal ?_) | (with_reducible refine then_ret ?_) | (with_reducible refine leave_eq ?_) | (with_reducible refine leave_normal ?_) | (with_reducible refine leave_ret ?_) | (with_reducible refine leave_ne (by decide) ?_) | go_values | go_skip | go_guarded | go_step)
    refine (takeE_r _ _ args.length 1 aA cA _ _ (by simp) (by simp) H0.out).mono ?_
    rintro e w1 ⟨rfl, rfl⟩
    dsimp only
    repeat (first | (with_reducible refine then_exit ?_) | (with_reducible refine then_normal ?_) | (with_reducible refine then_ret ?_) | (with_reducible refine leave_eq ?_) | (with_reducible refine leave_normal ?_) | (with_reducible refine leave_ret ?_) | (with_reducible refine leave_ne (by decide) ?_) | go_values | go_skip | go_guarded | go_step)
    go_ret
    exact ⟨rfl, by repeat (first | exact (Below.refl _ _).alloc (Nat.le_refl _) _ | refine Below.drewN' ?_ _ | refine Below.setCell ?_ (by simp) _)⟩
  rw [hc0, Bool.true_and] at hr
  have H0 := Lib.hid hc0
  clear hc0
  rcases hc1 : Pl.nameB name.data.toList with _ | _
  · rw [hc1, Bool.false_and] at hr
    subst hr
    have H1 := Lib.hid hc1
    clear hc1
    go_enter Try.func54, Try.ntmps54
    repeat (first | (with_reducible refine then_exit ?_) | (with_reducible refine then_normal ?_) | (with_reducible refine then_ret ?_) | (with_reducible refine leave_eq ?_) | (with_reducible refine leave_normal ?_) | (with_reducible refine leave_ret ?_) | (with_reducible refine leave_ne (by decide) ?_) | go_values | go_skip | go_guarded | go_step)
    refine (takeE_r _ _ args.length 1 aA cA _ _ (by simp) (by simp) H0.out).mono ?_
    rintro e w1 ⟨rfl, rfl⟩
    dsimp only
    repeat (first | (with_reducible refine then_exit ?_) | (with_reducible refine then_normal ?_) | (with_reducible refine then_ret ?_) | (with_reducible refine leave_eq ?_) | (with_reducible refine leave_normal ?_) | (with_reducible refine leave_ret ?_) | (with_reducible refine leave_ne (by decide) ?_) | go_values | go_skip | go_guarded | go_step)
    refine (isName_r name _ H1.out _ _hn).mono ?_
    rintro e w1 ⟨rfl, rfl⟩
    dsimp only
    repeat (first | (with_reducible refine then_exit ?_) | (with_reducible refine then_normal ?_) | (with_reducible refine then_ret ?_) | (with_reducible refine leave_eq ?_) | (with_reducible refine leave_normal ?_) | (with_reducible refine leave_ret ?_) | (with_reducible refine leave_ne (by decide) ?_) | go_values | go_skip | go_guarded | go_step)
    go_ret
    exact ⟨rfl, by repeat (first | exact (Below.refl _ _).alloc (Nat.le_refl _) _ | refine Below.drewN' ?_ _ | refine Below.setCell ?_ (by simp) _)⟩
  rw [hc1, Bool.true_and] at hr
  have H1 := Lib.hid hc1
  clear hc1
  rcases hc2 : decide (as'.size = 0) with _ | _
  · rw [hc2, Bool.false_and] at hr
    subst hr
    have H2 := Lib.hid hc2
    clear hc2
    have T2 : as'.toList.isEmpty = false := toList_isEmpty as' (by have := of_decide_eq_false H2.out; omega)
    go_enter Try.func54, Try.ntmps54
    repeat (first | (with_reducible refine then_exit ?_) | (with_reducible refine then_normal ?_) | (with_reducible refine then_ret ?_) | (with_reducible refine leave_eq ?_) | (with_reducible refine leave_normal ?_) | (with_reducible refine leave_ret ?_) | (with_reducible refine leave_ne (by decide) ?_) | go_values | go_skip | go_guarded | go_step)
    refine (takeE_r _ _ args.length 1 aA cA _ _ (by simp) (by simp) H0.out).mono ?_
    rintro e w1 ⟨rfl, rfl⟩
    dsimp only
    repeat (first | (with_reducible refine then_exit ?_) | (with_reducible refine then_normal ?_) | (with_reducible refine then_ret ?_) | (with_reducible refine leave_eq ?_) | (with_reducible refine leave_normal ?_) | (with_reducible refine leave_ret ?_) | (with_reducible refine leave_ne (by decide) ?_) | go_values | go_skip | go_guarded | go_step)
    refine (isName_r name _ H1.out _ _hn).mono ?_
    rintro e w1 ⟨rfl, rfl⟩
    dsimp only
    repeat (first | (with_reducible refine then_exit ?_) | (with_reducible refine then_normal ?_) | (with_reducible refine then_ret ?_) | (with_reducible refine leave_eq ?_) | (with_reducible refine leave_normal ?_) | (with_reducible refine leave_ret ?_) | (with_reducible refine leave_ne (by decide) ?_) | go_values | go_skip | go_guarded | go_step)
    go_ret
    exact ⟨rfl, by repeat (first | exact (Below.refl _ _).alloc (Nat.le_refl _) _ | refine Below.drewN' ?_ _ | refine Below.setCell ?_ (by simp) _)⟩
  rw [hc2, Bool.true_and] at hr
  have H2 := Lib.hid hc2
  clear hc2
  have T2 : as'.toList = [] := toList_nil as' (of_decide_eq_true H2.out)
  rcases hc3 : decide (types.length = 0) with _ | _
  · rw [hc3] at hr
    subst hr
    have H3 := Lib.hid hc3
    clear hc3
    have T3 : ((types.length : Int) == 0) = false := by have := H3.out; simp at this ⊢; omega
    go_enter Try.func54, Try.ntmps54
    repeat (first | (with_reducible refine then_exit ?_) | (with_reducible refine then_normal ?_) | (with_reducible refine then_ret ?_) | (with_reducible refine leave_eq ?_) | (with_reducible refine leave_normal ?_) | (with_reducible refine leave_ret ?_) | (with_reducible refine leave_ne (by decide) ?_) | go_values | go_skip | go_guarded | go_step)
    refine (takeE_r _ _ args.length 1 aA cA _ _ (by simp) (by simp) H0.out).mono ?_
    rintro e w1 ⟨rfl, rfl⟩
    dsimp only
    repeat (first | (with_reducible refine then_exit ?_) | (with_reducible refine then_normal ?_) | (with_reducible refine then_ret ?_) | (with_reducible refine leave_eq ?_) | (with_reducible refine leave_normal ?_) | (with_reducible refine leave_ret ?_) | (with_reducible refine leave_ne (by decide) ?_) | go_values | go_skip | go_guarded | go_step)
    refine (isName_r name _ H1.out _ _hn).mono ?_
    rintro e w1 ⟨rfl, rfl⟩
    dsimp only
    repeat (first | (with_reducible refine then_exit ?_) | (with_reducible refine then_normal ?_) | (with_reducible refine then_ret ?_) | (with_reducible refine leave_eq ?_) | (with_reducible refine leave_normal ?_) | (with_reducible refine leave_ret ?_) | (with_reducible refine leave_ne (by decide) ?_) | go_values | go_skip | go_guarded | go_step)
    go_ret
    exact ⟨rfl, by repeat (first | exact (Below.refl _ _).alloc (Nat.le_refl _) _ | refine Below.drewN' ?_ _ | refine Below.setCell ?_ (by simp) _)⟩
  rw [hc3] at hr
  have H3 := Lib.hid hc3
  clear hc3
  have T3 : ((types.length : Int) == 0) = true := by have := H3.out; simp at this ⊢; omega
  subst hr
  go_enter Try.func54, Try.ntmps54
  repeat (first | (with_reducible refine then_exit ?_) | (with_reducible refine then_normal ?_) | (with_reducible refine then_ret ?_) | (with_reducible refine leave_eq ?_) | (with_reducible refine leave_normal ?_) | (with_reducible refine leave_ret ?_) | (with_reducible refine leave_ne (by decide) ?_) | go_values | go_skip | go_guarded | go_step)
  refine (takeE_r _ _ args.length 1 aA cA _ _ (by simp) (by simp) H0.out).mono ?_
  rintro e w1 ⟨rfl, rfl⟩
  dsimp only
  repeat (first | (with_reducible refine then_exit ?_) | (with_reducible refine then_normal ?_) | (with_reducible refine then_ret ?_) | (with_reducible refine leave_eq ?_) | (with_reducible refine leave_normal ?_) | (with_reducible refine leave_ret ?_) | (with_reducible refine leave_ne (by decide) ?_) | go_values | go_skip | go_guarded | go_step)
  refine (isName_r name _ H1.out _ _hn).mono ?_
  rintro e w1 ⟨rfl, rfl⟩
  dsimp only
  repeat (first | (with_reducible refine then_exit ?_) | (with_reducible refine then_normal ?_) | (with_reducible refine then_ret ?_) | (with_reducible refine leave_eq ?_) | (with_reducible refine leave_normal ?_) | (with_reducible refine leave_ret ?_) | (with_reducible refine leave_ne (by decide) ?_) | go_values | go_skip | go_guarded | go_step)
  go_ret
  exact ⟨rfl, by repeat (first | exact (Below.refl _ _).alloc (Nat.le_refl _) _ | refine Below.drewN' ?_ _ | refine Below.setCell ?_ (by simp) _)⟩

set_option maxRecDepth 100000 in
set_option maxHeartbeats 1000000 in
theorem memberMayBe_3 (w : World) (name as' : ByteArray) (args : List Ex) (types : List Ty) (aA aT : Option Addr) (cA cT : Nat) (r : Bool) (_hn : name.size ≤ maxLen) (_ha : as'.size ≤ maxLen)
    (hr : (decide (args.length = 1) && (Pl.nameB name.data.toList && (decide (as'.size = 0) && decide (types.length = 0)))) = r) :
    Calls Try.prog 54 #[.agg #[.int .i64 3, .string name, .string as', .slice aA args.length cA, .slice aT types.length cT]] w fun e w' => e = .returned (.bool r) ∧ Below w.heap.size w w' := by
  rcases hc0 : decide (args.length = 1) with _ | _
  · rw [hc0, Bool.false_and] at hr
    subst hr
    have H0 := Lib.hid hc0
    clear hc0
    go_enter Try.func54, Try.ntmps54
    repeat (first | (with_reducible refine then_exit ?_) | (with_reducible refine then_normal ?_) | (with_reducible refine then_ret ?_) | (with_reducible refine leave_eq ?_) | (with_reducible refine leave_normal ?_) | (with_reducible refine leave_ret ?_) | (with_reducible refine leave_ne (by decide) ?_) | go_values | go_skip | go_guarded | go_step)
    refine (takeE_r _ _ args.length 1 aA cA _ _ (by simp) (by simp) H0.out).mono ?_
    rintro e w1 ⟨rfl, rfl⟩
    dsimp only
    repeat (first | (with_reducible refine then_exit ?_) | (with_reducible refine then_normal ?_) | (with_reducible refine then_ret ?_) | (with_reducible refine leave_eq ?_) | (with_reducible refine leave_normal ?_) | (with_reducible refine leave_ret ?_) | (with_reducible refine leave_ne (by decide) ?_) | go_values | go_skip | go_guarded | go_step)
    go_ret
    exact ⟨rfl, by repeat (first | exact (Below.refl _ _).alloc (Nat.le_refl _) _ | refine Below.drewN' ?_ _ | refine Below.setCell ?_ (by simp) _)⟩
  rw [hc0, Bool.true_and] at hr
  have H0 := Lib.hid hc0
  clear hc0
  rcases hc1 : Pl.nameB name.data.toList with _ | _
  · rw [hc1, Bool.false_and] at hr
    subst hr
    have H1 := Lib.hid hc1
    clear hc1
    go_enter Try.func54, Try.ntmps54
    repeat (first | (with_reducible refine then_exit ?_) | (with_reducible refine then_normal ?_) | (with_reducible refine then_ret ?_) | (with_reducible refine leave_eq ?_) | (with_reducible refine leave_normal ?_) | (with_reducible refine leave_ret ?_) | (with_reducible refine leave_ne (by decide) ?_) | go_values | go_skip | go_guarded | go_step)
    refine (takeE_r _ _ args.length 1 aA cA _ _ (by simp) (by simp) H0.out).mono ?_
    rintro e w1 ⟨rfl, rfl⟩
    dsimp only
    repeat (first | (with_reducible refine then_exit ?_) | (with_reducible refine then_normal ?_) | (with_reducible refine then_ret ?_) | (with_reducible refine leave_eq ?_) | (with_reducible refine leave_normal ?_) | (with_reducible refine leave_ret ?_) | (with_reducible refine leave_ne (by decide) ?_) | go_values | go_skip | go_guarded | go_step)
    refine (isName_r name _ H1.out _ _hn).mono ?_
    rintro e w1 ⟨rfl, rfl⟩
    dsimp only
    repeat (first | (with_reducible refine then_exit ?_) | (with_reducible refine then_normal ?_) | (with_reducible refine then_ret ?_) | (with_reducible refine leave_eq ?_) | (with_reducible refine leave_normal ?_) | (with_reducible refine leave_ret ?_) | (with_reducible refine leave_ne (by decide) ?_) | go_values | go_skip | go_guarded | go_step)
    go_ret
    exact ⟨rfl, by repeat (first | exact (Below.refl _ _).alloc (Nat.le_refl _) _ | refine Below.drewN' ?_ _ | refine Below.setCell ?_ (by simp) _)⟩
  rw [hc1, Bool.true_and] at hr
  have H1 := Lib.hid hc1
  clear hc1
  rcases hc2 : decide (as'.size = 0) with _ | _
  · rw [hc2, Bool.false_and] at hr
    subst hr
    have H2 := Lib.hid hc2
    clear hc2
    have T2 : as'.toList.isEmpty = false := toList_isEmpty as' (by have := of_decide_eq_false H2.out; omega)
    go_enter Try.func54, Try.ntmps54
    repeat (first | (with_reducible refine then_exit ?_) | (with_reducible refine then_normal ?_) | (with_reducible refine then_ret ?_) | (with_reducible refine leave_eq ?_) | (with_reducible refine leave_normal ?_) | (with_reducible refine leave_ret ?_) | (with_reducible refine leave_ne (by decide) ?_) | go_values | go_skip | go_guarded | go_step)
    refine (takeE_r _ _ args.length 1 aA cA _ _ (by simp) (by simp) H0.out).mono ?_
    rintro e w1 ⟨rfl, rfl⟩
    dsimp only
    repeat (first | (with_reducible refine then_exit ?_) | (with_reducible refine then_normal ?_) | (with_reducible refine then_ret ?_) | (with_reducible refine leave_eq ?_) | (with_reducible refine leave_normal ?_) | (with_reducible refine leave_ret ?_) | (with_reducible refine leave_ne (by decide) ?_) | go_values | go_skip | go_guarded | go_step)
    refine (isName_r name _ H1.out _ _hn).mono ?_
    rintro e w1 ⟨rfl, rfl⟩
    dsimp only
    repeat (first | (with_reducible refine then_exit ?_) | (with_reducible refine then_normal ?_) | (with_reducible refine then_ret ?_) | (with_reducible refine leave_eq ?_) | (with_reducible refine leave_normal ?_) | (with_reducible refine leave_ret ?_) | (with_reducible refine leave_ne (by decide) ?_) | go_values | go_skip | go_guarded | go_step)
    go_ret
    exact ⟨rfl, by repeat (first | exact (Below.refl _ _).alloc (Nat.le_refl _) _ | refine Below.drewN' ?_ _ | refine Below.setCell ?_ (by simp) _)⟩
  rw [hc2, Bool.true_and] at hr
  have H2 := Lib.hid hc2
  clear hc2
  have T2 : as'.toList = [] := toList_nil as' (of_decide_eq_true H2.out)
  rcases hc3 : decide (types.length = 0) with _ | _
  · rw [hc3] at hr
    subst hr
    have H3 := Lib.hid hc3
    clear hc3
    have T3 : ((types.length : Int) == 0) = false := by have := H3.out; simp at this ⊢; omega
    go_enter Try.func54, Try.ntmps54
    repeat (first | (with_reducible refine then_exit ?_) | (with_reducible refine then_normal ?_) | (with_reducible refine then_ret ?_) | (with_reducible refine leave_eq ?_) | (with_reducible refine leave_normal ?_) | (with_reducible refine leave_ret ?_) | (with_reducible refine leave_ne (by decide) ?_) | go_values | go_skip | go_guarded | go_step)
    refine (takeE_r _ _ args.length 1 aA cA _ _ (by simp) (by simp) H0.out).mono ?_
    rintro e w1 ⟨rfl, rfl⟩
    dsimp only
    repeat (first | (with_reducible refine then_exit ?_) | (with_reducible refine then_normal ?_) | (with_reducible refine then_ret ?_) | (with_reducible refine leave_eq ?_) | (with_reducible refine leave_normal ?_) | (with_reducible refine leave_ret ?_) | (with_reducible refine leave_ne (by decide) ?_) | go_values | go_skip | go_guarded | go_step)
    refine (isName_r name _ H1.out _ _hn).mono ?_
    rintro e w1 ⟨rfl, rfl⟩
    dsimp only
    repeat (first | (with_reducible refine then_exit ?_) | (with_reducible refine then_normal ?_) | (with_reducible refine then_ret ?_) | (with_reducible refine leave_eq ?_) | (with_reducible refine leave_normal ?_) | (with_reducible refine leave_ret ?_) | (with_reducible refine leave_ne (by decide) ?_) | go_values | go_skip | go_guarded | go_step)
    go_ret
    exact ⟨rfl, by repeat (first | exact (Below.refl _ _).alloc (Nat.le_refl _) _ | refine Below.drewN' ?_ _ | refine Below.setCell ?_ (by simp) _)⟩
  rw [hc3] at hr
  have H3 := Lib.hid hc3
  clear hc3
  have T3 : ((types.length : Int) == 0) = true := by have := H3.out; simp at this ⊢; omega
  subst hr
  go_enter Try.func54, Try.ntmps54
  repeat (first | (with_reducible refine then_exit ?_) | (with_reducible refine then_normal ?_) | (with_reducible refine then_ret ?_) | (with_reducible refine leave_eq ?_) | (with_reducible refine leave_normal ?_) | (with_reducible refine leave_ret ?_) | (with_reducible refine leave_ne (by decide) ?_) | go_values | go_skip | go_guarded | go_step)
  refine (takeE_r _ _ args.length 1 aA cA _ _ (by simp) (by simp) H0.out).mono ?_
  rintro e w1 ⟨rfl, rfl⟩
  dsimp only
  repeat (first | (with_reducible refine then_exit ?_) | (with_reducible refine then_normal ?_) | (with_reducible refine then_ret ?_) | (with_reducible refine leave_eq ?_) | (with_reducible refine leave_normal ?_) | (with_reducible refine leave_ret ?_) | (with_reducible refine leave_ne (by decide) ?_) | go_values | go_skip | go_guarded | go_step)
  refine (isName_r name _ H1.out _ _hn).mono ?_
  rintro e w1 ⟨rfl, rfl⟩
  dsimp only
  repeat (first | (with_reducible refine then_exit ?_) | (with_reducible refine then_normal ?_) | (with_reducible refine then_ret ?_) | (with_reducible refine leave_eq ?_) | (with_reducible refine leave_normal ?_) | (with_reducible refine leave_ret ?_) | (with_reducible refine leave_ne (by decide) ?_) | go_values | go_skip | go_guarded | go_step)
  go_ret
  exact ⟨rfl, by repeat (first | exact (Below.refl _ _).alloc (Nat.le_refl _) _ | refine Below.drewN' ?_ _ | refine Below.setCell ?_ (by simp) _)⟩

set_option maxRecDepth 100000 in
set_option maxHeartbeats 1000000 in
theorem memberMayBe_4 (w : World) (name as' : ByteArray) (args : List Ex) (types : List Ty) (aA aT : Option Addr) (cA cT : Nat) (r : Bool) (_hn : name.size ≤ maxLen) (_ha : as'.size ≤ maxLen)
    (hr : (decide (types.length = 1) && (Pl.nameB name.data.toList && (decide (as'.size = 0) && decide (args.length = 0)))) = r) :
    Calls Try.prog 54 #[.agg #[.int .i64 4, .string name, .string as', .slice aA args.length cA, .slice aT types.length cT]] w fun e w' => e = .returned (.bool r) ∧ Below w.heap.size w w' := by
  rcases hc0 : decide (types.length = 1) with _ | _
  · rw [hc0, Bool.false_and] at hr
    subst hr
    have H0 := Lib.hid hc0
    clear hc0
    go_enter Try.func54, Try.ntmps54
    repeat (first | (with_reducible refine then_exit ?_) | (with_reducible refine then_normal ?_) | (with_reducible refine then_ret ?_) | (with_reducible refine leave_eq ?_) | (with_reducible refine leave_normal ?_) | (with_reducible refine leave_ret ?_) | (with_reducible refine leave_ne (by decide) ?_) | go_values | go_skip | go_guarded | go_step)
    refine (takeT_r _ _ types.length 1 aT cT _ _ (by simp) (by simp) H0.out).mono ?_
    rintro e w1 ⟨rfl, rfl⟩
    dsimp only
    repeat (first | (with_reducible refine then_exit ?_) | (with_reducible refine then_normal ?_) | (with_reducible refine then_ret ?_) | (with_reducible refine leave_eq ?_) | (with_reducible refine leave_normal ?_) | (with_reducible refine leave_ret ?_) | (with_reducible refine leave_ne (by decide) ?_) | go_values | go_skip | go_guarded | go_step)
    go_ret
    exact ⟨rfl, by repeat (first | exact (Below.refl _ _).alloc (Nat.le_refl _) _ | refine Below.drewN' ?_ _ | refine Below.setCell ?_ (by simp) _)⟩
  rw [hc0, Bool.true_and] at hr
  have H0 := Lib.hid hc0
  clear hc0
  rcases hc1 : Pl.nameB name.data.toList with _ | _
  · rw [hc1, Bool.false_and] at hr
    subst hr
    have H1 := Lib.hid hc1
    clear hc1
    go_enter Try.func54, Try.ntmps54
    repeat (first | (with_reducible refine then_exit ?_) | (with_reducible refine then_normal ?_) | (with_reducible refine then_ret ?_) | (with_reducible refine leave_eq ?_) | (with_reducible refine leave_normal ?_) | (with_reducible refine leave_ret ?_) | (with_reducible refine leave_ne (by decide) ?_) | go_values | go_skip | go_guarded | go_step)
    refine (takeT_r _ _ types.length 1 aT cT _ _ (by simp) (by simp) H0.out).mono ?_
    rintro e w1 ⟨rfl, rfl⟩
    dsimp only
    repeat (first | (with_reducible refine then_exit ?_) | (with_reducible refine then_normal ?_) | (with_reducible refine then_ret ?_) | (with_reducible refine leave_eq ?_) | (with_reducible refine leave_normal ?_) | (with_reducible refine leave_ret ?_) | (with_reducible refine leave_ne (by decide) ?_) | go_values | go_skip | go_guarded | go_step)
    refine (isName_r name _ H1.out _ _hn).mono ?_
    rintro e w1 ⟨rfl, rfl⟩
    dsimp only
    repeat (first | (with_reducible refine then_exit ?_) | (with_reducible refine then_normal ?_) | (with_reducible refine then_ret ?_) | (with_reducible refine leave_eq ?_) | (with_reducible refine leave_normal ?_) | (with_reducible refine leave_ret ?_) | (with_reducible refine leave_ne (by decide) ?_) | go_values | go_skip | go_guarded | go_step)
    go_ret
    exact ⟨rfl, by repeat (first | exact (Below.refl _ _).alloc (Nat.le_refl _) _ | refine Below.drewN' ?_ _ | refine Below.setCell ?_ (by simp) _)⟩
  rw [hc1, Bool.true_and] at hr
  have H1 := Lib.hid hc1
  clear hc1
  rcases hc2 : decide (as'.size = 0) with _ | _
  · rw [hc2, Bool.false_and] at hr
    subst hr
    have H2 := Lib.hid hc2
    clear hc2
    have T2 : as'.toList.isEmpty = false := toList_isEmpty as' (by have := of_decide_eq_false H2.out; omega)
    go_enter Try.func54, Try.ntmps54
    repeat (first | (with_reducible refine then_exit ?_) | (with_reducible refine then_normal ?_) | (with_reducible refine then_ret ?_) | (with_reducible refine leave_eq ?_) | (with_reducible refine leave_normal ?_) | (with_reducible refine leave_ret ?_) | (with_reducible refine leave_ne (by decide) ?_) | go_values | go_skip | go_guarded | go_step)
    refine (takeT_r _ _ types.length 1 aT cT _ _ (by simp) (by simp) H0.out).mono ?_
    rintro e w1 ⟨rfl, rfl⟩
    dsimp only
    repeat (first | (with_reducible refine then_exit ?_) | (with_reducible refine then_normal ?_) | (with_reducible refine then_ret ?_) | (with_reducible refine leave_eq ?_) | (with_reducible refine leave_normal ?_) | (with_reducible refine leave_ret ?_) | (with_reducible refine leave_ne (by decide) ?_) | go_values | go_skip | go_guarded | go_step)
    refine (isName_r name _ H1.out _ _hn).mono ?_
    rintro e w1 ⟨rfl, rfl⟩
    dsimp only
    repeat (first | (with_reducible refine then_exit ?_) | (with_reducible refine then_normal ?_) | (with_reducible refine then_ret ?_) | (with_reducible refine leave_eq ?_) | (with_reducible refine leave_normal ?_) | (with_reducible refine leave_ret ?_) | (with_reducible refine leave_ne (by decide) ?_) | go_values | go_skip | go_guarded | go_step)
    go_ret
    exact ⟨rfl, by repeat (first | exact (Below.refl _ _).alloc (Nat.le_refl _) _ | refine Below.drewN' ?_ _ | refine Below.setCell ?_ (by simp) _)⟩
  rw [hc2, Bool.true_and] at hr
  have H2 := Lib.hid hc2
  clear hc2
  have T2 : as'.toList = [] := toList_nil as' (of_decide_eq_true H2.out)
  rcases hc3 : decide (args.length = 0) with _ | _
  · rw [hc3] at hr
    subst hr
    have H3 := Lib.hid hc3
    clear hc3
    have T3 : ((args.length : Int) == 0) = false := by have := H3.out; simp at this ⊢; omega
    go_enter Try.func54, Try.ntmps54
    repeat (first | (with_reducible refine then_exit ?_) | (with_reducible refine then_normal ?_) | (with_reducible refine then_ret ?_) | (with_reducible refine leave_eq ?_) | (with_reducible refine leave_normal ?_) | (with_reducible refine leave_ret ?_) | (with_reducible refine leave_ne (by decide) ?_) | go_values | go_skip | go_guarded | go_step)
    refine (takeT_r _ _ types.length 1 aT cT _ _ (by simp) (by simp) H0.out).mono ?_
    rintro e w1 ⟨rfl, rfl⟩
    dsimp only
    repeat (first | (with_reducible refine then_exit ?_) | (with_reducible refine then_normal ?_) | (with_reducible refine then_ret ?_) | (with_reducible refine leave_eq ?_) | (with_reducible refine leave_normal ?_) | (with_reducible refine leave_ret ?_) | (with_reducible refine leave_ne (by decide) ?_) | go_values | go_skip | go_guarded | go_step)
    refine (isName_r name _ H1.out _ _hn).mono ?_
    rintro e w1 ⟨rfl, rfl⟩
    dsimp only
    repeat (first | (with_reducible refine then_exit ?_) | (with_reducible refine then_normal ?_) | (with_reducible refine then_ret ?_) | (with_reducible refine leave_eq ?_) | (with_reducible refine leave_normal ?_) | (with_reducible refine leave_ret ?_) | (with_reducible refine leave_ne (by decide) ?_) | go_values | go_skip | go_guarded | go_step)
    go_ret
    exact ⟨rfl, by repeat (first | exact (Below.refl _ _).alloc (Nat.le_refl _) _ | refine Below.drewN' ?_ _ | refine Below.setCell ?_ (by simp) _)⟩
  rw [hc3] at hr
  have H3 := Lib.hid hc3
  clear hc3
  have T3 : ((args.length : Int) == 0) = true := by have := H3.out; simp at this ⊢; omega
  subst hr
  go_enter Try.func54, Try.ntmps54
  repeat (first | (with_reducible refine then_exit ?_) | (with_reducible refine then_normal ?_) | (with_reducible refine then_ret ?_) | (with_reducible refine leave_eq ?_) | (with_reducible refine leave_normal ?_) | (with_reducible refine leave_ret ?_) | (with_reducible refine leave_ne (by decide) ?_) | go_values | go_skip | go_guarded | go_step)
  refine (takeT_r _ _ types.length 1 aT cT _ _ (by simp) (by simp) H0.out).mono ?_
  rintro e w1 ⟨rfl, rfl⟩
  dsimp only
  repeat (first | (with_reducible refine then_exit ?_) | (with_reducible refine then_normal ?_) | (with_reducible refine then_ret ?_) | (with_reducible refine leave_eq ?_) | (with_reducible refine leave_normal ?_) | (with_reducible refine leave_ret ?_) | (with_reducible refine leave_ne (by decide) ?_) | go_values | go_skip | go_guarded | go_step)
  refine (isName_r name _ H1.out _ _hn).mono ?_
  rintro e w1 ⟨rfl, rfl⟩
  dsimp only
  repeat (first | (with_reducible refine then_exit ?_) | (with_reducible refine then_normal ?_) | (with_reducible refine then_ret ?_) | (with_reducible refine leave_eq ?_) | (with_reducible refine leave_normal ?_) | (with_reducible refine leave_ret ?_) | (with_reducible refine leave_ne (by decide) ?_) | go_values | go_skip | go_guarded | go_step)
  go_ret
  exact ⟨rfl, by repeat (first | exact (Below.refl _ _).alloc (Nat.le_refl _) _ | refine Below.drewN' ?_ _ | refine Below.setCell ?_ (by simp) _)⟩

set_option maxRecDepth 100000 in
set_option maxHeartbeats 1000000 in
theorem memberMayBe_else (w : World) (name as' : ByteArray) (args : List Ex) (types : List Ty) (aA aT : Option Addr) (cA cT : Nat) (r : Bool) (_hn : name.size ≤ maxLen) (_ha : as'.size ≤ maxLen)
    (kk : Int) (k1 : kk ≠ 1) (k2 : kk ≠ 2) (k3 : kk ≠ 3) (k4 : kk ≠ 4) (hr : false = r) :
    Calls Try.prog 54 #[.agg #[.int .i64 kk, .string name, .string as', .slice aA args.length cA, .slice aT types.length cT]] w fun e w' => e = .returned (.bool r) ∧ Below w.heap.size w w' := by
  subst hr
  have b1 : (kk == 1) = false := by rw [beq_eq_false_iff_ne]; exact k1
  have b2 : (kk == 2) = false := by rw [beq_eq_false_iff_ne]; exact k2
  have b3 : (kk == 3) = false := by rw [beq_eq_false_iff_ne]; exact k3
  have b4 : (kk == 4) = false := by rw [beq_eq_false_iff_ne]; exact k4
  clear k1 k2 k3 k4
  go_enter Try.func54, Try.ntmps54
  repeat (first | (with_reducible refine then_exit ?_) | (with_reducible refine then_normal ?_) | (with_reducible refine then_ret ?_) | (with_reducible refine leave_eq ?_) | (with_reducible refine leave_normal ?_) | (with_reducible refine leave_ret ?_) | (with_reducible refine leave_ne (by decide) ?_) | go_values | go_skip | go_guarded | go_step)
  go_ret
  exact ⟨rfl, by repeat (first | exact (Below.refl _ _).alloc (Nat.le_refl _) _ | refine Below.drewN' ?_ _ | refine Below.setCell ?_ (by simp) _)⟩

theorem memberMayBe_r (w : World) (S : Nat → Prop) (e0 : Mm) (ev : Value) (r : Bool) (he : MmV w S e0 ev) (hr : mmOk e0 = r) :
    Calls Try.prog 54 #[ev] w fun e w' => e = .returned (.bool r) ∧ Below w.heap.size w w' := by
  obtain ⟨kk, name, as', args, types⟩ := e0
  unfold MmV at he
  obtain ⟨aA, cA, aT, cT, rfl, hn, ha, _⟩ := he
  by_cases k1 : kk = 1
  · subst k1
    have hr' : ((decide (as'.size = 0) || Pl.nameB as'.data.toList) && (Pl.nameB name.data.toList && decide (types.length = 0))) = r := hr
    rcases Nat.eq_zero_or_pos as'.size with h0 | h0
    · rw [decide_eq_true h0, Bool.true_or, Bool.true_and] at hr'
      exact memberMayBe_1a w name as' args types aA aT cA cT r hn ha (toList_nil _ h0) hr'
    · rw [decide_eq_false (by omega), Bool.false_or] at hr'
      exact memberMayBe_1b w name as' args types aA aT cA cT r hn ha (toList_isEmpty _ h0) hr'
  by_cases k2 : kk = 2
  · subst k2; exact memberMayBe_2 w name as' args types aA aT cA cT r hn ha hr
  by_cases k3 : kk = 3
  · subst k3; exact memberMayBe_3 w name as' args types aA aT cA cT r hn ha hr
  by_cases k4 : kk = 4
  · subst k4; exact memberMayBe_4 w name as' args types aA aT cA cT r hn ha hr
  refine memberMayBe_else w name as' args types aA aT cA cT r hn ha kk k1 k2 k3 k4 ?_
  rw [← hr]
  unfold mmOk
  simp only [k1, k2, k3, k4, or_self, if_false]

set_option maxRecDepth 100000 in
set_option maxHeartbeats 1000000 in
theorem typeMayBe_4 (w : World) (S : Nat → Prop) (_hS : ∀ k, S k → k < w.heap.size) (s : ByteArray) (args : List Ty) (labels : List ByteArray) (op : Bool) (aA aL : Option Addr) (cA cL : Nat) (r : Bool) (_hs : s.size ≤ maxLen) (_hlc : labels.length ≤ cL) (_hcm : cL ≤ maxLen) (_hL : StrsO w S labels aL)
    (hr : (decide (args.length = 1) && (wordB' s.data.toList && (decide (labels.length = 0) && !op))) = r) :
    Calls Try.prog 58 #[.agg #[.int .i64 4, .string s, .slice aA args.length cA, .slice aL labels.length cL, .bool op]] w fun e w' => e = .returned (.bool r) ∧ Below w.heap.size w w' := by
  rcases hc0 : decide (args.length = 1) with _ | _
  · rw [hc0, Bool.false_and] at hr
    subst hr
    have H0 := Lib.hid hc0
    clear hc0
    go_enter Try.func58, Try.ntmps58
    repeat (first | (with_reducible refine then_exit ?_) | (with_reducible refine then_normal ?_) | (with_reducible refine then_ret ?_) | (with_reducible refine leave_eq ?_) | (with_reducible refine leave_normal ?_) | (with_reducible refine leave_ret ?_) | (with_reducible refine leave_ne (by decide) ?_) | go_values | go_skip | go_guarded | go_step)
    refine (takeT_r _ _ args.length 1 aA cA _ _ (by simp) (by simp) H0.out).mono ?_
    rintro e w1 ⟨rfl, rfl⟩
    dsimp only
    repeat (first | (with_reducible refine then_exit ?_) | (with_reducible refine then_normal ?_) | (with_reducible refine then_ret ?_) | (with_reducible refine leave_eq ?_) | (with_reducible refine leave_normal ?_) | (with_reducible refine leave_ret ?_) | (with_reducible refine leave_ne (by decide) ?_) | go_values | go_skip | go_guarded | go_step)
    go_ret
    exact ⟨rfl, by repeat (first | exact (Below.refl _ _).alloc (Nat.le_refl _) _ | refine Below.drewN' ?_ _ | refine Below.setCell ?_ (by simp) _)⟩
  rw [hc0, Bool.true_and] at hr
  have H0 := Lib.hid hc0
  clear hc0
  rcases hc1 : wordB' s.data.toList with _ | _
  · rw [hc1, Bool.false_and] at hr
    subst hr
    have H1 := Lib.hid hc1
    clear hc1
    go_enter Try.func58, Try.ntmps58
    repeat (first | (with_reducible refine then_exit ?_) | (with_reducible refine then_normal ?_) | (with_reducible refine then_ret ?_) | (with_reducible refine leave_eq ?_) | (with_reducible refine leave_normal ?_) | (with_reducible refine leave_ret ?_) | (with_reducible refine leave_ne (by decide) ?_) | go_values | go_skip | go_guarded | go_step)
    refine (takeT_r _ _ args.length 1 aA cA _ _ (by simp) (by simp) H0.out).mono ?_
    rintro e w1 ⟨rfl, rfl⟩
    dsimp only
    repeat (first | (with_reducible refine then_exit ?_) | (with_reducible refine then_normal ?_) | (with_reducible refine then_ret ?_) | (with_reducible refine leave_eq ?_) | (with_reducible refine leave_normal ?_) | (with_reducible refine leave_ret ?_) | (with_reducible refine leave_ne (by decide) ?_) | go_values | go_skip | go_guarded | go_step)
    refine (takeWord_r _ _ s _ _ (by simp) (by simp) H1.out _hs).mono ?_
    rintro e w1 ⟨rfl, rfl⟩
    dsimp only
    repeat (first | (with_reducible refine then_exit ?_) | (with_reducible refine then_normal ?_) | (with_reducible refine then_ret ?_) | (with_reducible refine leave_eq ?_) | (with_reducible refine leave_normal ?_) | (with_reducible refine leave_ret ?_) | (with_reducible refine leave_ne (by decide) ?_) | go_values | go_skip | go_guarded | go_step)
    go_ret
    exact ⟨rfl, by repeat (first | exact (Below.refl _ _).alloc (Nat.le_refl _) _ | refine Below.drewN' ?_ _ | refine Below.setCell ?_ (by simp) _)⟩
  rw [hc1, Bool.true_and] at hr
  have H1 := Lib.hid hc1
  clear hc1
  rcases hc2 : decide (labels.length = 0) with _ | _
  · rw [hc2, Bool.false_and] at hr
    subst hr
    have H2 := Lib.hid hc2
    clear hc2
    have T2 : ((labels.length : Int) == 0) = false := by have := H2.out; simp at this ⊢; omega
    go_enter Try.func58, Try.ntmps58
    repeat (first | (with_reducible refine then_exit ?_) | (with_reducible refine then_normal ?_) | (with_reducible refine then_ret ?_) | (with_reducible refine leave_eq ?_) | (with_reducible refine leave_normal ?_) | (with_reducible refine leave_ret ?_) | (with_reducible refine leave_ne (by decide) ?_) | go_values | go_skip | go_guarded | go_step)
    refine (takeT_r _ _ args.length 1 aA cA _ _ (by simp) (by simp) H0.out).mono ?_
    rintro e w1 ⟨rfl, rfl⟩
    dsimp only
    repeat (first | (with_reducible refine then_exit ?_) | (with_reducible refine then_normal ?_) | (with_reducible refine then_ret ?_) | (with_reducible refine leave_eq ?_) | (with_reducible refine leave_normal ?_) | (with_reducible refine leave_ret ?_) | (with_reducible refine leave_ne (by decide) ?_) | go_values | go_skip | go_guarded | go_step)
    refine (takeWord_r _ _ s _ _ (by simp) (by simp) H1.out _hs).mono ?_
    rintro e w1 ⟨rfl, rfl⟩
    dsimp only
    repeat (first | (with_reducible refine then_exit ?_) | (with_reducible refine then_normal ?_) | (with_reducible refine then_ret ?_) | (with_reducible refine leave_eq ?_) | (with_reducible refine leave_normal ?_) | (with_reducible refine leave_ret ?_) | (with_reducible refine leave_ne (by decide) ?_) | go_values | go_skip | go_guarded | go_step)
    go_ret
    exact ⟨rfl, by repeat (first | exact (Below.refl _ _).alloc (Nat.le_refl _) _ | refine Below.drewN' ?_ _ | refine Below.setCell ?_ (by simp) _)⟩
  rw [hc2, Bool.true_and] at hr
  have H2 := Lib.hid hc2
  clear hc2
  have T2 : ((labels.length : Int) == 0) = true := by have := H2.out; simp at this ⊢; omega
  rcases hc3 : !op with _ | _
  · rw [hc3] at hr
    subst hr
    have H3 := Lib.hid hc3
    clear hc3
    have T3 : op = true := by have := H3.out; simpa using this
    subst T3
    go_enter Try.func58, Try.ntmps58
    repeat (first | (with_reducible refine then_exit ?_) | (with_reducible refine then_normal ?_) | (with_reducible refine then_ret ?_) | (with_reducible refine leave_eq ?_) | (with_reducible refine leave_normal ?_) | (with_reducible refine leave_ret ?_) | (with_reducible refine leave_ne (by decide) ?_) | go_values | go_skip | go_guarded | go_step)
    refine (takeT_r _ _ args.length 1 aA cA _ _ (by simp) (by simp) H0.out).mono ?_
    rintro e w1 ⟨rfl, rfl⟩
    dsimp only
    repeat (first | (with_reducible refine then_exit ?_) | (with_reducible refine then_normal ?_) | (with_reducible refine then_ret ?_) | (with_reducible refine leave_eq ?_) | (with_reducible refine leave_normal ?_) | (with_reducible refine leave_ret ?_) | (with_reducible refine leave_ne (by decide) ?_) | go_values | go_skip | go_guarded | go_step)
    refine (takeWord_r _ _ s _ _ (by simp) (by simp) H1.out _hs).mono ?_
    rintro e w1 ⟨rfl, rfl⟩
    dsimp only
    repeat (first | (with_reducible refine then_exit ?_) | (with_reducible refine then_normal ?_) | (with_reducible refine then_ret ?_) | (with_reducible refine leave_eq ?_) | (with_reducible refine leave_normal ?_) | (with_reducible refine leave_ret ?_) | (with_reducible refine leave_ne (by decide) ?_) | go_values | go_skip | go_guarded | go_step)
    go_ret
    exact ⟨rfl, by repeat (first | exact (Below.refl _ _).alloc (Nat.le_refl _) _ | refine Below.drewN' ?_ _ | refine Below.setCell ?_ (by simp) _)⟩
  rw [hc3] at hr
  have H3 := Lib.hid hc3
  clear hc3
  have T3 : op = false := by have := H3.out; simpa using this
  subst T3
  subst hr
  go_enter Try.func58, Try.ntmps58
  repeat (first | (with_reducible refine then_exit ?_) | (with_reducible refine then_normal ?_) | (with_reducible refine then_ret ?_) | (with_reducible refine leave_eq ?_) | (with_reducible refine leave_normal ?_) | (with_reducible refine leave_ret ?_) | (with_reducible refine leave_ne (by decide) ?_) | go_values | go_skip | go_guarded | go_step)
  refine (takeT_r _ _ args.length 1 aA cA _ _ (by simp) (by simp) H0.out).mono ?_
  rintro e w1 ⟨rfl, rfl⟩
  dsimp only
  repeat (first | (with_reducible refine then_exit ?_) | (with_reducible refine then_normal ?_) | (with_reducible refine then_ret ?_) | (with_reducible refine leave_eq ?_) | (with_reducible refine leave_normal ?_) | (with_reducible refine leave_ret ?_) | (with_reducible refine leave_ne (by decide) ?_) | go_values | go_skip | go_guarded | go_step)
  refine (takeWord_r _ _ s _ _ (by simp) (by simp) H1.out _hs).mono ?_
  rintro e w1 ⟨rfl, rfl⟩
  dsimp only
  repeat (first | (with_reducible refine then_exit ?_) | (with_reducible refine then_normal ?_) | (with_reducible refine then_ret ?_) | (with_reducible refine leave_eq ?_) | (with_reducible refine leave_normal ?_) | (with_reducible refine leave_ret ?_) | (with_reducible refine leave_ne (by decide) ?_) | go_values | go_skip | go_guarded | go_step)
  go_ret
  exact ⟨rfl, by repeat (first | exact (Below.refl _ _).alloc (Nat.le_refl _) _ | refine Below.drewN' ?_ _ | refine Below.setCell ?_ (by simp) _)⟩

set_option maxRecDepth 100000 in
set_option maxHeartbeats 1000000 in
theorem typeMayBe_1 (w : World) (S : Nat → Prop) (_hS : ∀ k, S k → k < w.heap.size) (s : ByteArray) (args : List Ty) (labels : List ByteArray) (op : Bool) (aA aL : Option Addr) (cA cL : Nat) (r : Bool) (_hs : s.size ≤ maxLen) (_hlc : labels.length ≤ cL) (_hcm : cL ≤ maxLen) (_hL : StrsO w S labels aL)
    (hr : (wordB' s.data.toList && (decide (args.length = 0) && (decide (labels.length = 0) && !op))) = r) :
    Calls Try.prog 58 #[.agg #[.int .i64 1, .string s, .slice aA args.length cA, .slice aL labels.length cL, .bool op]] w fun e w' => e = .returned (.bool r) ∧ Below w.heap.size w w' := by
  rcases hc0 : wordB' s.data.toList with _ | _
  · rw [hc0, Bool.false_and] at hr
    subst hr
    have H0 := Lib.hid hc0
    clear hc0
    go_enter Try.func58, Try.ntmps58
    repeat (first | (with_reducible refine then_exit ?_) | (with_reducible refine then_normal ?_) | (with_reducible refine then_ret ?_) | (with_reducible refine leave_eq ?_) | (with_reducible refine leave_normal ?_) | (with_reducible refine leave_ret ?_) | (with_reducible refine leave_ne (by decide) ?_) | go_values | go_skip | go_guarded | go_step)
    refine (takeWord_r _ _ s _ _ (by simp) (by simp) H0.out _hs).mono ?_
    rintro e w1 ⟨rfl, rfl⟩
    dsimp only
    repeat (first | (with_reducible refine then_exit ?_) | (with_reducible refine then_normal ?_) | (with_reducible refine then_ret ?_) | (with_reducible refine leave_eq ?_) | (with_reducible refine leave_normal ?_) | (with_reducible refine leave_ret ?_) | (with_reducible refine leave_ne (by decide) ?_) | go_values | go_skip | go_guarded | go_step)
    go_ret
    exact ⟨rfl, by repeat (first | exact (Below.refl _ _).alloc (Nat.le_refl _) _ | refine Below.drewN' ?_ _ | refine Below.setCell ?_ (by simp) _)⟩
  rw [hc0, Bool.true_and] at hr
  have H0 := Lib.hid hc0
  clear hc0
  rcases hc1 : decide (args.length = 0) with _ | _
  · rw [hc1, Bool.false_and] at hr
    subst hr
    have H1 := Lib.hid hc1
    clear hc1
    have T1 : ((args.length : Int) == 0) = false := by have := H1.out; simp at this ⊢; omega
    go_enter Try.func58, Try.ntmps58
    repeat (first | (with_reducible refine then_exit ?_) | (with_reducible refine then_normal ?_) | (with_reducible refine then_ret ?_) | (with_reducible refine leave_eq ?_) | (with_reducible refine leave_normal ?_) | (with_reducible refine leave_ret ?_) | (with_reducible refine leave_ne (by decide) ?_) | go_values | go_skip | go_guarded | go_step)
    refine (takeWord_r _ _ s _ _ (by simp) (by simp) H0.out _hs).mono ?_
    rintro e w1 ⟨rfl, rfl⟩
    dsimp only
    repeat (first | (with_reducible refine then_exit ?_) | (with_reducible refine then_normal ?_) | (with_reducible refine then_ret ?_) | (with_reducible refine leave_eq ?_) | (with_reducible refine leave_normal ?_) | (with_reducible refine leave_ret ?_) | (with_reducible refine leave_ne (by decide) ?_) | go_values | go_skip | go_guarded | go_step)
    go_ret
    exact ⟨rfl, by repeat (first | exact (Below.refl _ _).alloc (Nat.le_refl _) _ | refine Below.drewN' ?_ _ | refine Below.setCell ?_ (by simp) _)⟩
  rw [hc1, Bool.true_and] at hr
  have H1 := Lib.hid hc1
  clear hc1
  have T1 : ((args.length : Int) == 0) = true := by have := H1.out; simp at this ⊢; omega
  rcases hc2 : decide (labels.length = 0) with _ | _
  · rw [hc2, Bool.false_and] at hr
    subst hr
    have H2 := Lib.hid hc2
    clear hc2
    have T2 : ((labels.length : Int) == 0) = false := by have := H2.out; simp at this ⊢; omega
    go_enter Try.func58, Try.ntmps58
    repeat (first | (with_reducible refine then_exit ?_) | (with_reducible refine then_normal ?_) | (with_reducible refine then_ret ?_) | (with_reducible refine leave_eq ?_) | (with_reducible refine leave_normal ?_) | (with_reducible refine leave_ret ?_) | (with_reducible refine leave_ne (by decide) ?_) | go_values | go_skip | go_guarded | go_step)
    refine (takeWord_r _ _ s _ _ (by simp) (by simp) H0.out _hs).mono ?_
    rintro e w1 ⟨rfl, rfl⟩
    dsimp only
    repeat (first | (with_reducible refine then_exit ?_) | (with_reducible refine then_normal ?_) | (with_reducible refine then_ret ?_) | (with_reducible refine leave_eq ?_) | (with_reducible refine leave_normal ?_) | (with_reducible refine leave_ret ?_) | (with_reducible refine leave_ne (by decide) ?_) | go_values | go_skip | go_guarded | go_step)
    go_ret
    exact ⟨rfl, by repeat (first | exact (Below.refl _ _).alloc (Nat.le_refl _) _ | refine Below.drewN' ?_ _ | refine Below.setCell ?_ (by simp) _)⟩
  rw [hc2, Bool.true_and] at hr
  have H2 := Lib.hid hc2
  clear hc2
  have T2 : ((labels.length : Int) == 0) = true := by have := H2.out; simp at this ⊢; omega
  rcases hc3 : !op with _ | _
  · rw [hc3] at hr
    subst hr
    have H3 := Lib.hid hc3
    clear hc3
    have T3 : op = true := by have := H3.out; simpa using this
    subst T3
    go_enter Try.func58, Try.ntmps58
    repeat (first | (with_reducible refine then_exit ?_) | (with_reducible refine then_normal ?_) | (with_reducible refine then_ret ?_) | (with_reducible refine leave_eq ?_) | (with_reducible refine leave_normal ?_) | (with_reducible refine leave_ret ?_) | (with_reducible refine leave_ne (by decide) ?_) | go_values | go_skip | go_guarded | go_step)
    refine (takeWord_r _ _ s _ _ (by simp) (by simp) H0.out _hs).mono ?_
    rintro e w1 ⟨rfl, rfl⟩
    dsimp only
    repeat (first | (with_reducible refine then_exit ?_) | (with_reducible refine then_normal ?_) | (with_reducible refine then_ret ?_) | (with_reducible refine leave_eq ?_) | (with_reducible refine leave_normal ?_) | (with_reducible refine leave_ret ?_) | (with_reducible refine leave_ne (by decide) ?_) | go_values | go_skip | go_guarded | go_step)
    go_ret
    exact ⟨rfl, by repeat (first | exact (Below.refl _ _).alloc (Nat.le_refl _) _ | refine Below.drewN' ?_ _ | refine Below.setCell ?_ (by simp) _)⟩
  rw [hc3] at hr
  have H3 := Lib.hid hc3
  clear hc3
  have T3 : op = false := by have := H3.out; simpa using this
  subst T3
  subst hr
  go_enter Try.func58, Try.ntmps58
  repeat (first | (with_reducible refine then_exit ?_) | (with_reducible refine then_normal ?_) | (with_reducible refine then_ret ?_) | (with_reducible refine leave_eq ?_) | (with_reducible refine leave_normal ?_) | (with_reducible refine leave_ret ?_) | (with_reducible refine leave_ne (by decide) ?_) | go_values | go_skip | go_guarded | go_step)
  refine (takeWord_r _ _ s _ _ (by simp) (by simp) H0.out _hs).mono ?_
  rintro e w1 ⟨rfl, rfl⟩
  dsimp only
  repeat (first | (with_reducible refine then_exit ?_) | (with_reducible refine then_normal ?_) | (with_reducible refine then_ret ?_) | (with_reducible refine leave_eq ?_) | (with_reducible refine leave_normal ?_) | (with_reducible refine leave_ret ?_) | (with_reducible refine leave_ne (by decide) ?_) | go_values | go_skip | go_guarded | go_step)
  go_ret
  exact ⟨rfl, by repeat (first | exact (Below.refl _ _).alloc (Nat.le_refl _) _ | refine Below.drewN' ?_ _ | refine Below.setCell ?_ (by simp) _)⟩

set_option maxRecDepth 100000 in
set_option maxHeartbeats 1000000 in
theorem typeMayBe_2 (w : World) (S : Nat → Prop) (_hS : ∀ k, S k → k < w.heap.size) (s : ByteArray) (args : List Ty) (labels : List ByteArray) (op : Bool) (aA aL : Option Addr) (cA cL : Nat) (c : Nat) (r : Bool) (_hs : s.size ≤ maxLen) (_hlc : labels.length ≤ cL) (_hcm : cL ≤ maxLen) (_hL : StrsO w S labels aL)
    (hA : argsOfB s.data.toList = some c) (hr : (decide (args.length = c) && (decide (labels.length = 0) && !op)) = r) :
    Calls Try.prog 58 #[.agg #[.int .i64 2, .string s, .slice aA args.length cA, .slice aL labels.length cL, .bool op]] w fun e w' => e = .returned (.bool r) ∧ Below w.heap.size w w' := by
  have HA := Lib.hid hA
  clear hA
  rcases hc0 : decide (args.length = c) with _ | _
  · rw [hc0, Bool.false_and] at hr
    subst hr
    have H0 := Lib.hid hc0
    clear hc0
    go_enter Try.func58, Try.ntmps58
    repeat (first | (with_reducible refine then_exit ?_) | (with_reducible refine then_normal ?_) | (with_reducible refine then_ret ?_) | (with_reducible refine leave_eq ?_) | (with_reducible refine leave_normal ?_) | (with_reducible refine leave_ret ?_) | (with_reducible refine leave_ne (by decide) ?_) | go_values | go_skip | go_guarded | go_step)
    refine (argsOf_r s (some c) _ HA.out).mono ?_
    rintro e w1 ⟨rfl, rfl⟩
    simp only [Option.getD_some, Option.isSome_some]
    repeat (first | (with_reducible refine then_exit ?_) | (with_reducible refine then_normal ?_) | (with_reducible refine then_ret ?_) | (with_reducible refine leave_eq ?_) | (with_reducible refine leave_normal ?_) | (with_reducible refine leave_ret ?_) | (with_reducible refine leave_ne (by decide) ?_) | go_values | go_skip | go_guarded | go_step)
    refine (takeT_r _ _ args.length c aA cA _ _ (by simp) (by simp) H0.out).mono ?_
    rintro e w1 ⟨rfl, rfl⟩
    dsimp only
    repeat (first | (with_reducible refine then_exit ?_) | (with_reducible refine then_normal ?_) | (with_reducible refine then_ret ?_) | (with_reducible refine leave_eq ?_) | (with_reducible refine leave_normal ?_) | (with_reducible refine leave_ret ?_) | (with_reducible refine leave_ne (by decide) ?_) | go_values | go_skip | go_guarded | go_step)
    go_ret
    exact ⟨rfl, by repeat (first | exact (Below.refl _ _).alloc (Nat.le_refl _) _ | refine Below.drewN' ?_ _ | refine Below.setCell ?_ (by simp) _)⟩
  rw [hc0, Bool.true_and] at hr
  have H0 := Lib.hid hc0
  clear hc0
  rcases hc1 : decide (labels.length = 0) with _ | _
  · rw [hc1, Bool.false_and] at hr
    subst hr
    have H1 := Lib.hid hc1
    clear hc1
    have T1 : ((labels.length : Int) == 0) = false := by have := H1.out; simp at this ⊢; omega
    go_enter Try.func58, Try.ntmps58
    repeat (first | (with_reducible refine then_exit ?_) | (with_reducible refine then_normal ?_) | (with_reducible refine then_ret ?_) | (with_reducible refine leave_eq ?_) | (with_reducible refine leave_normal ?_) | (with_reducible refine leave_ret ?_) | (with_reducible refine leave_ne (by decide) ?_) | go_values | go_skip | go_guarded | go_step)
    refine (argsOf_r s (some c) _ HA.out).mono ?_
    rintro e w1 ⟨rfl, rfl⟩
    simp only [Option.getD_some, Option.isSome_some]
    repeat (first | (with_reducible refine then_exit ?_) | (with_reducible refine then_normal ?_) | (with_reducible refine then_ret ?_) | (with_reducible refine leave_eq ?_) | (with_reducible refine leave_normal ?_) | (with_reducible refine leave_ret ?_) | (with_reducible refine leave_ne (by decide) ?_) | go_values | go_skip | go_guarded | go_step)
    refine (takeT_r _ _ args.length c aA cA _ _ (by simp) (by simp) H0.out).mono ?_
    rintro e w1 ⟨rfl, rfl⟩
    dsimp only
    repeat (first | (with_reducible refine then_exit ?_) | (with_reducible refine then_normal ?_) | (with_reducible refine then_ret ?_) | (with_reducible refine leave_eq ?_) | (with_reducible refine leave_normal ?_) | (with_reducible refine leave_ret ?_) | (with_reducible refine leave_ne (by decide) ?_) | go_values | go_skip | go_guarded | go_step)
    go_ret
    exact ⟨rfl, by repeat (first | exact (Below.refl _ _).alloc (Nat.le_refl _) _ | refine Below.drewN' ?_ _ | refine Below.setCell ?_ (by simp) _)⟩
  rw [hc1, Bool.true_and] at hr
  have H1 := Lib.hid hc1
  clear hc1
  have T1 : ((labels.length : Int) == 0) = true := by have := H1.out; simp at this ⊢; omega
  rcases hc2 : !op with _ | _
  · rw [hc2] at hr
    subst hr
    have H2 := Lib.hid hc2
    clear hc2
    have T2 : op = true := by have := H2.out; simpa using this
    subst T2
    go_enter Try.func58, Try.ntmps58
    repeat (first | (with_reducible refine then_exit ?_) | (with_reducible refine then_normal ?_) | (with_reducible refine then_ret ?_) | (with_reducible refine leave_eq ?_) | (with_reducible refine leave_normal ?_) | (with_reducible refine leave_ret ?_) | (with_reducible refine leave_ne (by decide) ?_) | go_values | go_skip | go_guarded | go_step)
    refine (argsOf_r s (some c) _ HA.out).mono ?_
    rintro e w1 ⟨rfl, rfl⟩
    simp only [Option.getD_some, Option.isSome_some]
    repeat (first | (with_reducible refine then_exit ?_) | (with_reducible refine then_normal ?_) | (with_reducible refine then_ret ?_) | (with_reducible refine leave_eq ?_) | (with_reducible refine leave_normal ?_) | (with_reducible refine leave_ret ?_) | (with_reducible refine leave_ne (by decide) ?_) | go_values | go_skip | go_guarded | go_step)
    refine (takeT_r _ _ args.length c aA cA _ _ (by simp) (by simp) H0.out).mono ?_
    rintro e w1 ⟨rfl, rfl⟩
    dsimp only
    repeat (first | (with_reducible refine then_exit ?_) | (with_reducible refine then_normal ?_) | (with_reducible refine then_ret ?_) | (with_reducible refine leave_eq ?_) | (with_reducible refine leave_normal ?_) | (with_reducible refine leave_ret ?_) | (with_reducible refine leave_ne (by decide) ?_) | go_values | go_skip | go_guarded | go_step)
    go_ret
    exact ⟨rfl, by repeat (first | exact (Below.refl _ _).alloc (Nat.le_refl _) _ | refine Below.drewN' ?_ _ | refine Below.setCell ?_ (by simp) _)⟩
  rw [hc2] at hr
  have H2 := Lib.hid hc2
  clear hc2
  have T2 : op = false := by have := H2.out; simpa using this
  subst T2
  subst hr
  go_enter Try.func58, Try.ntmps58
  repeat (first | (with_reducible refine then_exit ?_) | (with_reducible refine then_normal ?_) | (with_reducible refine then_ret ?_) | (with_reducible refine leave_eq ?_) | (with_reducible refine leave_normal ?_) | (with_reducible refine leave_ret ?_) | (with_reducible refine leave_ne (by decide) ?_) | go_values | go_skip | go_guarded | go_step)
  refine (argsOf_r s (some c) _ HA.out).mono ?_
  rintro e w1 ⟨rfl, rfl⟩
  simp only [Option.getD_some, Option.isSome_some]
  repeat (first | (with_reducible refine then_exit ?_) | (with_reducible refine then_normal ?_) | (with_reducible refine then_ret ?_) | (with_reducible refine leave_eq ?_) | (with_reducible refine leave_normal ?_) | (with_reducible refine leave_ret ?_) | (with_reducible refine leave_ne (by decide) ?_) | go_values | go_skip | go_guarded | go_step)
  refine (takeT_r _ _ args.length c aA cA _ _ (by simp) (by simp) H0.out).mono ?_
  rintro e w1 ⟨rfl, rfl⟩
  dsimp only
  repeat (first | (with_reducible refine then_exit ?_) | (with_reducible refine then_normal ?_) | (with_reducible refine then_ret ?_) | (with_reducible refine leave_eq ?_) | (with_reducible refine leave_normal ?_) | (with_reducible refine leave_ret ?_) | (with_reducible refine leave_ne (by decide) ?_) | go_values | go_skip | go_guarded | go_step)
  go_ret
  exact ⟨rfl, by repeat (first | exact (Below.refl _ _).alloc (Nat.le_refl _) _ | refine Below.drewN' ?_ _ | refine Below.setCell ?_ (by simp) _)⟩

set_option maxRecDepth 100000 in
set_option maxHeartbeats 1000000 in
theorem typeMayBe_2n (w : World) (S : Nat → Prop) (_hS : ∀ k, S k → k < w.heap.size) (s : ByteArray) (args : List Ty) (labels : List ByteArray) (op : Bool) (aA aL : Option Addr) (cA cL : Nat) (r : Bool) (_hs : s.size ≤ maxLen) (_hlc : labels.length ≤ cL) (_hcm : cL ≤ maxLen) (_hL : StrsO w S labels aL)
    (hA : argsOfB s.data.toList = none) (hr : false = r) :
    Calls Try.prog 58 #[.agg #[.int .i64 2, .string s, .slice aA args.length cA, .slice aL labels.length cL, .bool op]] w fun e w' => e = .returned (.bool r) ∧ Below w.heap.size w w' := by
  have HA := Lib.hid hA
  clear hA
  subst hr
  go_enter Try.func58, Try.ntmps58
  repeat (first | (with_reducible refine then_exit ?_) | (with_reducible refine then_normal ?_) | (with_reducible refine then_ret ?_) | (with_reducible refine leave_eq ?_) | (with_reducible refine leave_normal ?_) | (with_reducible refine leave_ret ?_) | (with_reducible refine leave_ne (by decide) ?_) | go_values | go_skip | go_guarded | go_step)
  refine (argsOf_r s none _ HA.out).mono ?_
  rintro e w1 ⟨rfl, rfl⟩
  simp only [Option.getD_none, Option.isSome_none]
  repeat (first | (with_reducible refine then_exit ?_) | (with_reducible refine then_normal ?_) | (with_reducible refine then_ret ?_) | (with_reducible refine leave_eq ?_) | (with_reducible refine leave_normal ?_) | (with_reducible refine leave_ret ?_) | (with_reducible refine leave_ne (by decide) ?_) | go_values | go_skip | go_guarded | go_step)
  go_ret
  exact ⟨rfl, by repeat (first | exact (Below.refl _ _).alloc (Nat.le_refl _) _ | refine Below.drewN' ?_ _ | refine Below.setCell ?_ (by simp) _)⟩

set_option maxRecDepth 100000 in
set_option maxHeartbeats 1000000 in
theorem typeMayBe_3 (w : World) (S : Nat → Prop) (_hS : ∀ k, S k → k < w.heap.size) (s : ByteArray) (args : List Ty) (labels : List ByteArray) (op : Bool) (aA aL : Option Addr) (cA cL : Nat) (r : Bool) (_hs : s.size ≤ maxLen) (_hlc : labels.length ≤ cL) (_hcm : cL ≤ maxLen) (_hL : StrsO w S labels aL)
    (hr : (decide (args.length = labels.length) && (risesB labels && (namesB labels && decide (s.size = 0)))) = r) :
    Calls Try.prog 58 #[.agg #[.int .i64 3, .string s, .slice aA args.length cA, .slice aL labels.length cL, .bool op]] w fun e w' => e = .returned (.bool r) ∧ Below w.heap.size w w' := by
  rcases hc0 : decide (args.length = labels.length) with _ | _
  · rw [hc0, Bool.false_and] at hr
    subst hr
    have H0 := Lib.hid hc0
    clear hc0
    go_enter Try.func58, Try.ntmps58
    repeat (first | (with_reducible refine then_exit ?_) | (with_reducible refine then_normal ?_) | (with_reducible refine then_ret ?_) | (with_reducible refine leave_eq ?_) | (with_reducible refine leave_normal ?_) | (with_reducible refine leave_ret ?_) | (with_reducible refine leave_ne (by decide) ?_) | go_values | go_skip | go_guarded | go_step)
    refine (takeT_r _ _ args.length labels.length aA cA _ _ (by simp) (by simp) H0.out).mono ?_
    rintro e w1 ⟨rfl, rfl⟩
    dsimp only
    repeat (first | (with_reducible refine then_exit ?_) | (with_reducible refine then_normal ?_) | (with_reducible refine then_ret ?_) | (with_reducible refine leave_eq ?_) | (with_reducible refine leave_normal ?_) | (with_reducible refine leave_ret ?_) | (with_reducible refine leave_ne (by decide) ?_) | go_values | go_skip | go_guarded | go_step)
    go_ret
    exact ⟨rfl, by repeat (first | exact (Below.refl _ _).alloc (Nat.le_refl _) _ | refine Below.drewN' ?_ _ | refine Below.setCell ?_ (by simp) _)⟩
  rw [hc0, Bool.true_and] at hr
  have H0 := Lib.hid hc0
  clear hc0
  rcases hc1 : risesB labels with _ | _
  · rw [hc1, Bool.false_and] at hr
    subst hr
    have H1 := Lib.hid hc1
    clear hc1
    go_enter Try.func58, Try.ntmps58
    repeat (first | (with_reducible refine then_exit ?_) | (with_reducible refine then_normal ?_) | (with_reducible refine then_ret ?_) | (with_reducible refine leave_eq ?_) | (with_reducible refine leave_normal ?_) | (with_reducible refine leave_ret ?_) | (with_reducible refine leave_ne (by decide) ?_) | go_values | go_skip | go_guarded | go_step)
    refine (takeT_r _ _ args.length labels.length aA cA _ _ (by simp) (by simp) H0.out).mono ?_
    rintro e w1 ⟨rfl, rfl⟩
    dsimp only
    repeat (first | (with_reducible refine then_exit ?_) | (with_reducible refine then_normal ?_) | (with_reducible refine then_ret ?_) | (with_reducible refine leave_eq ?_) | (with_reducible refine leave_normal ?_) | (with_reducible refine leave_ret ?_) | (with_reducible refine leave_ne (by decide) ?_) | go_values | go_skip | go_guarded | go_step)
    refine (rise_r labels aL cL S _ _ (by exact StrsO.keep (fun k hk => ⟨hk, (by repeat (first | exact (Below.refl _ _).alloc (Nat.le_refl _) _ | refine Below.drewN' ?_ _ | refine Below.setCell ?_ (by simp) _) : Below w.heap.size w _).block k (_hS k hk)⟩) _ _ _hL) _hlc _hcm H1.out).mono ?_
    rintro e w1 ⟨rfl, nd, rfl⟩
    dsimp only
    repeat (first | (with_reducible refine then_exit ?_) | (with_reducible refine then_normal ?_) | (with_reducible refine then_ret ?_) | (with_reducible refine leave_eq ?_) | (with_reducible refine leave_normal ?_) | (with_reducible refine leave_ret ?_) | (with_reducible refine leave_ne (by decide) ?_) | go_values | go_skip | go_guarded | go_step)
    go_ret
    exact ⟨rfl, by repeat (first | exact (Below.refl _ _).alloc (Nat.le_refl _) _ | refine Below.drewN' ?_ _ | refine Below.setCell ?_ (by simp) _)⟩
  rw [hc1, Bool.true_and] at hr
  have H1 := Lib.hid hc1
  clear hc1
  rcases hc2 : namesB labels with _ | _
  · rw [hc2, Bool.false_and] at hr
    subst hr
    have H2 := Lib.hid hc2
    clear hc2
    go_enter Try.func58, Try.ntmps58
    repeat (first | (with_reducible refine then_exit ?_) | (with_reducible refine then_normal ?_) | (with_reducible refine then_ret ?_) | (with_reducible refine leave_eq ?_) | (with_reducible refine leave_normal ?_) | (with_reducible refine leave_ret ?_) | (with_reducible refine leave_ne (by decide) ?_) | go_values | go_skip | go_guarded | go_step)
    refine (takeT_r _ _ args.length labels.length aA cA _ _ (by simp) (by simp) H0.out).mono ?_
    rintro e w1 ⟨rfl, rfl⟩
    dsimp only
    repeat (first | (with_reducible refine then_exit ?_) | (with_reducible refine then_normal ?_) | (with_reducible refine then_ret ?_) | (with_reducible refine leave_eq ?_) | (with_reducible refine leave_normal ?_) | (with_reducible refine leave_ret ?_) | (with_reducible refine leave_ne (by decide) ?_) | go_values | go_skip | go_guarded | go_step)
    refine (rise_r labels aL cL S _ _ (by exact StrsO.keep (fun k hk => ⟨hk, (by repeat (first | exact (Below.refl _ _).alloc (Nat.le_refl _) _ | refine Below.drewN' ?_ _ | refine Below.setCell ?_ (by simp) _) : Below w.heap.size w _).block k (_hS k hk)⟩) _ _ _hL) _hlc _hcm H1.out).mono ?_
    rintro e w1 ⟨rfl, nd, rfl⟩
    dsimp only
    repeat (first | (with_reducible refine then_exit ?_) | (with_reducible refine then_normal ?_) | (with_reducible refine then_ret ?_) | (with_reducible refine leave_eq ?_) | (with_reducible refine leave_normal ?_) | (with_reducible refine leave_ret ?_) | (with_reducible refine leave_ne (by decide) ?_) | go_values | go_skip | go_guarded | go_step)
    refine (takeNames_r _ _ labels aL cL S _ _ (by simp) (by simp) (by exact StrsO.keep (fun k hk => ⟨hk, (by repeat (first | exact (Below.refl _ _).alloc (Nat.le_refl _) _ | refine Below.drewN' ?_ _ | refine Below.setCell ?_ (by simp) _) : Below w.heap.size w _).block k (_hS k hk)⟩) _ _ _hL) _hlc _hcm H2.out).mono ?_
    rintro e w1 ⟨rfl, hw1⟩
    simp [] at hw1
    subst hw1
    dsimp only
    repeat (first | (with_reducible refine then_exit ?_) | (with_reducible refine then_normal ?_) | (with_reducible refine then_ret ?_) | (with_reducible refine leave_eq ?_) | (with_reducible refine leave_normal ?_) | (with_reducible refine leave_ret ?_) | (with_reducible refine leave_ne (by decide) ?_) | go_values | go_skip | go_guarded | go_step)
    go_ret
    exact ⟨rfl, by repeat (first | exact (Below.refl _ _).alloc (Nat.le_refl _) _ | refine Below.drewN' ?_ _ | refine Below.setCell ?_ (by simp) _)⟩
  rw [hc2, Bool.true_and] at hr
  have H2 := Lib.hid hc2
  clear hc2
  rcases hc3 : decide (s.size = 0) with _ | _
  · rw [hc3] at hr
    subst hr
    have H3 := Lib.hid hc3
    clear hc3
    have T3 : s.toList.isEmpty = false := toList_isEmpty s (by have := of_decide_eq_false H3.out; omega)
    go_enter Try.func58, Try.ntmps58
    repeat (first | (with_reducible refine then_exit ?_) | (with_reducible refine then_normal ?_) | (with_reducible refine then_ret ?_) | (with_reducible refine leave_eq ?_) | (with_reducible refine leave_normal ?_) | (with_reducible refine leave_ret ?_) | (with_reducible refine leave_ne (by decide) ?_) | go_values | go_skip | go_guarded | go_step)
    refine (takeT_r _ _ args.length labels.length aA cA _ _ (by simp) (by simp) H0.out).mono ?_
    rintro e w1 ⟨rfl, rfl⟩
    dsimp only
    repeat (first | (with_reducible refine then_exit ?_) | (with_reducible refine then_normal ?_) | (with_reducible refine then_ret ?_) | (with_reducible refine leave_eq ?_) | (with_reducible refine leave_normal ?_) | (with_reducible refine leave_ret ?_) | (with_reducible refine leave_ne (by decide) ?_) | go_values | go_skip | go_guarded | go_step)
    refine (rise_r labels aL cL S _ _ (by exact StrsO.keep (fun k hk => ⟨hk, (by repeat (first | exact (Below.refl _ _).alloc (Nat.le_refl _) _ | refine Below.drewN' ?_ _ | refine Below.setCell ?_ (by simp) _) : Below w.heap.size w _).block k (_hS k hk)⟩) _ _ _hL) _hlc _hcm H1.out).mono ?_
    rintro e w1 ⟨rfl, nd, rfl⟩
    dsimp only
    repeat (first | (with_reducible refine then_exit ?_) | (with_reducible refine then_normal ?_) | (with_reducible refine then_ret ?_) | (with_reducible refine leave_eq ?_) | (with_reducible refine leave_normal ?_) | (with_reducible refine leave_ret ?_) | (with_reducible refine leave_ne (by decide) ?_) | go_values | go_skip | go_guarded | go_step)
    refine (takeNames_r _ _ labels aL cL S _ _ (by simp) (by simp) (by exact StrsO.keep (fun k hk => ⟨hk, (by repeat (first | exact (Below.refl _ _).alloc (Nat.le_refl _) _ | refine Below.drewN' ?_ _ | refine Below.setCell ?_ (by simp) _) : Below w.heap.size w _).block k (_hS k hk)⟩) _ _ _hL) _hlc _hcm H2.out).mono ?_
    rintro e w1 ⟨rfl, hw1⟩
    simp [] at hw1
    subst hw1
    dsimp only
    repeat (first | (with_reducible refine then_exit ?_) | (with_reducible refine then_normal ?_) | (with_reducible refine then_ret ?_) | (with_reducible refine leave_eq ?_) | (with_reducible refine leave_normal ?_) | (with_reducible refine leave_ret ?_) | (with_reducible refine leave_ne (by decide) ?_) | go_values | go_skip | go_guarded | go_step)
    go_ret
    exact ⟨rfl, by repeat (first | exact (Below.refl _ _).alloc (Nat.le_refl _) _ | refine Below.drewN' ?_ _ | refine Below.setCell ?_ (by simp) _)⟩
  rw [hc3] at hr
  have H3 := Lib.hid hc3
  clear hc3
  have T3 : s.toList = [] := toList_nil s (of_decide_eq_true H3.out)
  subst hr
  go_enter Try.func58, Try.ntmps58
  repeat (first | (with_reducible refine then_exit ?_) | (with_reducible refine then_normal ?_) | (with_reducible refine then_ret ?_) | (with_reducible refine leave_eq ?_) | (with_reducible refine leave_normal ?_) | (with_reducible refine leave_ret ?_) | (with_reducible refine leave_ne (by decide) ?_) | go_values | go_skip | go_guarded | go_step)
  refine (takeT_r _ _ args.length labels.length aA cA _ _ (by simp) (by simp) H0.out).mono ?_
  rintro e w1 ⟨rfl, rfl⟩
  dsimp only
  repeat (first | (with_reducible refine then_exit ?_) | (with_reducible refine then_normal ?_) | (with_reducible refine then_ret ?_) | (with_reducible refine leave_eq ?_) | (with_reducible refine leave_normal ?_) | (with_reducible refine leave_ret ?_) | (with_reducible refine leave_ne (by decide) ?_) | go_values | go_skip | go_guarded | go_step)
  refine (rise_r labels aL cL S _ _ (by exact StrsO.keep (fun k hk => ⟨hk, (by repeat (first | exact (Below.refl _ _).alloc (Nat.le_refl _) _ | refine Below.drewN' ?_ _ | refine Below.setCell ?_ (by simp) _) : Below w.heap.size w _).block k (_hS k hk)⟩) _ _ _hL) _hlc _hcm H1.out).mono ?_
  rintro e w1 ⟨rfl, nd, rfl⟩
  dsimp only
  repeat (first | (with_reducible refine then_exit ?_) | (with_reducible refine then_normal ?_) | (with_reducible refine then_ret ?_) | (with_reducible refine leave_eq ?_) | (with_reducible refine leave_normal ?_) | (with_reducible refine leave_ret ?_) | (with_reducible refine leave_ne (by decide) ?_) | go_values | go_skip | go_guarded | go_step)
  refine (takeNames_r _ _ labels aL cL S _ _ (by simp) (by simp) (by exact StrsO.keep (fun k hk => ⟨hk, (by repeat (first | exact (Below.refl _ _).alloc (Nat.le_refl _) _ | refine Below.drewN' ?_ _ | refine Below.setCell ?_ (by simp) _) : Below w.heap.size w _).block k (_hS k hk)⟩) _ _ _hL) _hlc _hcm H2.out).mono ?_
  rintro e w1 ⟨rfl, hw1⟩
  simp [] at hw1
  subst hw1
  dsimp only
  repeat (first | (with_reducible refine then_exit ?_) | (with_reducible refine then_normal ?_) | (with_reducible refine then_ret ?_) | (with_reducible refine leave_eq ?_) | (with_reducible refine leave_normal ?_) | (with_reducible refine leave_ret ?_) | (with_reducible refine leave_ne (by decide) ?_) | go_values | go_skip | go_guarded | go_step)
  go_ret
  exact ⟨rfl, by repeat (first | exact (Below.refl _ _).alloc (Nat.le_refl _) _ | refine Below.drewN' ?_ _ | refine Below.setCell ?_ (by simp) _)⟩

set_option maxRecDepth 100000 in
set_option maxHeartbeats 1000000 in
theorem typeMayBe_else (w : World) (S : Nat → Prop) (_hS : ∀ k, S k → k < w.heap.size) (s : ByteArray) (args : List Ty) (labels : List ByteArray) (op : Bool) (aA aL : Option Addr) (cA cL : Nat) (r : Bool) (_hs : s.size ≤ maxLen) (_hlc : labels.length ≤ cL) (_hcm : cL ≤ maxLen) (_hL : StrsO w S labels aL)
    (kk : Int) (k1 : kk ≠ 1) (k2 : kk ≠ 2) (k3 : kk ≠ 3) (k4 : kk ≠ 4) (hr : false = r) :
    Calls Try.prog 58 #[.agg #[.int .i64 kk, .string s, .slice aA args.length cA, .slice aL labels.length cL, .bool op]] w fun e w' => e = .returned (.bool r) ∧ Below w.heap.size w w' := by
  subst hr
  have b1 : (kk == 1) = false := by rw [beq_eq_false_iff_ne]; exact k1
  have b2 : (kk == 2) = false := by rw [beq_eq_false_iff_ne]; exact k2
  have b3 : (kk == 3) = false := by rw [beq_eq_false_iff_ne]; exact k3
  have b4 : (kk == 4) = false := by rw [beq_eq_false_iff_ne]; exact k4
  clear k1 k2 k3 k4
  go_enter Try.func58, Try.ntmps58
  repeat (first | (with_reducible refine then_exit ?_) | (with_reducible refine then_normal ?_) | (with_reducible refine then_ret ?_) | (with_reducible refine leave_eq ?_) | (with_reducible refine leave_normal ?_) | (with_reducible refine leave_ret ?_) | (with_reducible refine leave_ne (by decide) ?_) | go_values | go_skip | go_guarded | go_step)
  go_ret
  exact ⟨rfl, by repeat (first | exact (Below.refl _ _).alloc (Nat.le_refl _) _ | refine Below.drewN' ?_ _ | refine Below.setCell ?_ (by simp) _)⟩

theorem typeMayBe_r (w : World) (S : Nat → Prop) (e0 : Ty) (ev : Value) (r : Bool) (hS : ∀ k, S k → k < w.heap.size) (he : TyV w S e0 ev) (hr : tyOk e0 = r) :
    Calls Try.prog 58 #[ev] w fun e w' => e = .returned (.bool r) ∧ Below w.heap.size w w' := by
  obtain ⟨kk, s, args, labels, op⟩ := e0
  unfold TyV at he
  obtain ⟨aA, cA, aL, cL, rfl, hs, _, _, hlc, hcm, _, hL⟩ := he
  by_cases k4 : kk = 4
  · subst k4; exact typeMayBe_4 w S hS s args labels op aA aL cA cL r hs hlc hcm hL hr
  by_cases k1 : kk = 1
  · subst k1; exact typeMayBe_1 w S hS s args labels op aA aL cA cL r hs hlc hcm hL hr
  by_cases k2 : kk = 2
  · subst k2
    have hr' : ((argsOfB s.data.toList).isSome && (decide (args.length = (argsOfB s.data.toList).getD 0) && (decide (labels.length = 0) && !op))) = r := hr
    rcases hA : argsOfB s.data.toList with _ | c
    · rw [hA, Option.isSome_none, Bool.false_and] at hr'
      exact typeMayBe_2n w S hS s args labels op aA aL cA cL r hs hlc hcm hL hA hr'
    · rw [hA, Option.isSome_some, Bool.true_and, Option.getD_some] at hr'
      exact typeMayBe_2 w S hS s args labels op aA aL cA cL c r hs hlc hcm hL hA hr'
  by_cases k3 : kk = 3
  · subst k3; exact typeMayBe_3 w S hS s args labels op aA aL cA cL r hs hlc hcm hL hr
  refine typeMayBe_else w S hS s args labels op aA aL cA cL r hs hlc hcm hL kk k1 k2 k3 k4 ?_
  rw [← hr]
  unfold tyOk
  simp only [k1, k2, k3, k4, if_false]

end Go.Proofs.Ythgbldkcgfggfaa
