/-
  tree.exprMayBe: what it answers of any expression, kind by kind. (Made by gen_expr.py.)
-/
import Derived.Test.YthgbldkcgfggfaaMaybe
namespace Go.Proofs.Ythgbldkcgfggfaa
open Go.RowKit

/-- Whether an expression's own fields are as its kind has them. -/
def exOk : Ex → Bool
  | .mk k fs fn fargs fnames ftypes fmems =>
    if k = 5 then leftB fs fn fargs.length fnames.length ftypes.length fmems.length else
    if k = 3 then (decide (fn ≤ 1) && (decide (0 ≤ fn) && leftB fs 0 fargs.length fnames.length ftypes.length fmems.length)) else
    if k = 2 then (decide (0 ≤ fn) && leftB fs 0 fargs.length fnames.length ftypes.length fmems.length) else
    if k = 4 then (decide (fs.size ≤ 65536) && leftB ⟨#[]⟩ fn fargs.length fnames.length ftypes.length fmems.length) else
    if k = 9 then (begins fargs && (Pl.nameB fs.data.toList && (decide (fargs.length = 2) && leftB ⟨#[]⟩ fn 0 fnames.length ftypes.length fmems.length))) else
    if k = 8 then (Pl.nameB fs.data.toList && (decide (fargs.length = 2) && leftB ⟨#[]⟩ fn 0 fnames.length ftypes.length fmems.length)) else
    if k = 7 then (decide (fargs.length = 2) && leftB fs fn 0 fnames.length ftypes.length fmems.length) else
    if k = 10 then (decide (fargs.length = 2) && leftB fs fn 0 fnames.length ftypes.length fmems.length) else
    if k = 13 then (decide (fargs.length = 2) && leftB fs fn 0 fnames.length ftypes.length fmems.length) else
    if k = 11 then (decide (fargs.length = 3) && leftB fs fn 0 fnames.length ftypes.length fmems.length) else
    if k = 12 then (opB fs.data.toList && (decide (fargs.length = 2) && leftB ⟨#[]⟩ fn 0 fnames.length ftypes.length fmems.length)) else
    if k = 6 then (decide (fargs.length = 1) && (Pl.nameB fs.data.toList && leftB ⟨#[]⟩ fn 0 fnames.length ftypes.length fmems.length)) else
    if k = 15 then (decide (fargs.length = 1) && (Pl.nameB fs.data.toList && leftB ⟨#[]⟩ fn 0 fnames.length ftypes.length fmems.length)) else
    if k = 16 then (decide (fargs.length = 1) && (Pl.nameB fs.data.toList && leftB ⟨#[]⟩ fn 0 fnames.length ftypes.length fmems.length)) else
    if k = 17 then (Pl.nameB fs.data.toList && leftB ⟨#[]⟩ fn 0 fnames.length ftypes.length fmems.length) else
    if k = 1 then (Pl.nameB fs.data.toList && leftB ⟨#[]⟩ fn fargs.length fnames.length ftypes.length fmems.length) else
    if k = 18 then (decide (fargs.length = fnames.length) && (namesB fnames && leftB fs fn 0 0 ftypes.length fmems.length)) else
    if k = 19 then (decide (ftypes.length = 1) && (decide (fargs.length = 1) && leftB fs fn 0 fnames.length 0 fmems.length)) else
    if k = 20 then (decide (ftypes.length = 2) && (decide (fargs.length = 1) && leftB fs fn 0 fnames.length 0 fmems.length)) else
    if k = 14 then ((decide (fs.size = 0) || Pl.nameB fs.data.toList) && leftB ⟨#[]⟩ fn fargs.length fnames.length ftypes.length 0) else
    false

theorem leftB_empty {s : ByteArray} (h : s.size = 0) (n : Int) (a nn t m : Nat) : leftB s n a nn t m = leftB ⟨#[]⟩ n a nn t m := by
  have h0 : (⟨#[]⟩ : ByteArray).size = 0 := rfl
  simp [leftB, h, h0]

set_option maxRecDepth 100000 in
set_option maxHeartbeats 1000000 in
theorem exprMayBe_5 (w : World) (S : Nat → Prop) (_hS : ∀ k, S k → k < w.heap.size) (fs : ByteArray) (fn : Int) (fargs : List Ex) (fnames : List ByteArray) (ftypes : List Ty) (fmems : List Mm) (aA aN aT aM : Option Addr) (cA cN cT cM : Nat) (r : Bool)
    (_hs : fs.size ≤ maxLen) (_hlc : fargs.length ≤ cA) (_hE : ExsO w S fargs aA) (_hnc : fnames.length ≤ cN) (_hncm : cN ≤ maxLen) (_hNm : StrsO w S fnames aN)
    (hr : leftB fs fn fargs.length fnames.length ftypes.length fmems.length = r) :
    Calls Try.prog 31 #[.agg #[.int .i64 5, .string fs, .int .i64 fn, .slice aA fargs.length cA, .slice aN fnames.length cN, .slice aT ftypes.length cT, .slice aM fmems.length cM]] w fun e w' => e = .returned (.bool r) ∧ Below w.heap.size w w' := by
  have HL := Lib.hid hr
  clear hr
  go_enter Try.func31, Try.ntmps31
  repeat (first | (with_reducible refine then_exit ?_) | (with_reducible refine then_normal ?_) | (with_reducible refine then_ret ?_) | (with_reducible refine leave_eq ?_) | (with_reducible refine leave_normal ?_) | (with_reducible refine leave_ret ?_) | (with_reducible refine leave_ne (by decide) ?_) | go_values | go_skip | go_guarded | go_step)
  refine (nothingLeft_r _ _ _ _ _ _ _ _ _ _ _ _ _ _ _ _ _ HL.out).mono ?_
  rintro e w1 ⟨rfl, hb1⟩
  have HB1 := Lib.hid hb1
  clear hb1
  dsimp only
  repeat (first | (with_reducible refine then_exit ?_) | (with_reducible refine then_normal ?_) | (with_reducible refine then_ret ?_) | (with_reducible refine leave_eq ?_) | (with_reducible refine leave_normal ?_) | (with_reducible refine leave_ret ?_) | (with_reducible refine leave_ne (by decide) ?_) | go_values | go_skip | go_guarded | go_step)
  go_ret
  exact ⟨rfl, (by repeat (first | exact (Below.refl _ _).alloc (Nat.le_refl _) _ | refine Below.setCell ?_ (by simp) _) : Below w.heap.size w _).trans (HB1.out.mono (by simp))⟩

set_option maxRecDepth 100000 in
set_option maxHeartbeats 1000000 in
theorem exprMayBe_3 (w : World) (S : Nat → Prop) (_hS : ∀ k, S k → k < w.heap.size) (fs : ByteArray) (fn : Int) (fargs : List Ex) (fnames : List ByteArray) (ftypes : List Ty) (fmems : List Mm) (aA aN aT aM : Option Addr) (cA cN cT cM : Nat) (r : Bool)
    (_hs : fs.size ≤ maxLen) (_hlc : fargs.length ≤ cA) (_hE : ExsO w S fargs aA) (_hnc : fnames.length ≤ cN) (_hncm : cN ≤ maxLen) (_hNm : StrsO w S fnames aN)
    (hr : (decide (fn ≤ 1) && (decide (0 ≤ fn) && leftB fs 0 fargs.length fnames.length ftypes.length fmems.length)) = r) :
    Calls Try.prog 31 #[.agg #[.int .i64 3, .string fs, .int .i64 fn, .slice aA fargs.length cA, .slice aN fnames.length cN, .slice aT ftypes.length cT, .slice aM fmems.length cM]] w fun e w' => e = .returned (.bool r) ∧ Below w.heap.size w w' := by
  rcases hc0 : decide (fn ≤ 1) with _ | _
  · rw [hc0, Bool.false_and] at hr
    subst hr
    have H0 := Lib.hid hc0
    clear hc0
    have T0 : ¬ fn ≤ 1 := by have := H0.out; simpa using this
    go_enter Try.func31, Try.ntmps31
    repeat (first | (with_reducible refine then_exit ?_) | (with_reducible refine then_normal ?_) | (with_reducible refine then_ret ?_) | (with_reducible refine leave_eq ?_) | (with_reducible refine leave_normal ?_) | (with_reducible refine leave_ret ?_) | (with_reducible refine leave_ne (by decide) ?_) | go_values | go_skip | go_guarded | go_step)
    go_ret
    exact ⟨rfl, by repeat (first | exact (Below.refl _ _).alloc (Nat.le_refl _) _ | refine Below.setCell ?_ (by simp) _)⟩
  rw [hc0, Bool.true_and] at hr
  have H0 := Lib.hid hc0
  clear hc0
  have T0 :  fn ≤ 1 := by have := H0.out; simpa using this
  rcases hc1 : decide (0 ≤ fn) with _ | _
  · rw [hc1, Bool.false_and] at hr
    subst hr
    have H1 := Lib.hid hc1
    clear hc1
    have T1 : ¬ 0 ≤ fn := by have := H1.out; simpa using this
    go_enter Try.func31, Try.ntmps31
    repeat (first | (with_reducible refine then_exit ?_) | (with_reducible refine then_normal ?_) | (with_reducible refine then_ret ?_) | (with_reducible refine leave_eq ?_) | (with_reducible refine leave_normal ?_) | (with_reducible refine leave_ret ?_) | (with_reducible refine leave_ne (by decide) ?_) | go_values | go_skip | go_guarded | go_step)
    go_ret
    exact ⟨rfl, by repeat (first | exact (Below.refl _ _).alloc (Nat.le_refl _) _ | refine Below.setCell ?_ (by simp) _)⟩
  rw [hc1, Bool.true_and] at hr
  have H1 := Lib.hid hc1
  clear hc1
  have T1 :  0 ≤ fn := by have := H1.out; simpa using this
  have HL := Lib.hid hr
  clear hr
  go_enter Try.func31, Try.ntmps31
  repeat (first | (with_reducible refine then_exit ?_) | (with_reducible refine then_normal ?_) | (with_reducible refine then_ret ?_) | (with_reducible refine leave_eq ?_) | (with_reducible refine leave_normal ?_) | (with_reducible refine leave_ret ?_) | (with_reducible refine leave_ne (by decide) ?_) | go_values | go_skip | go_guarded | go_step)
  refine (nothingLeft_r _ _ _ _ _ _ _ _ _ _ _ _ _ _ _ _ _ HL.out).mono ?_
  rintro e w1 ⟨rfl, hb1⟩
  have HB1 := Lib.hid hb1
  clear hb1
  dsimp only
  repeat (first | (with_reducible refine then_exit ?_) | (with_reducible refine then_normal ?_) | (with_reducible refine then_ret ?_) | (with_reducible refine leave_eq ?_) | (with_reducible refine leave_normal ?_) | (with_reducible refine leave_ret ?_) | (with_reducible refine leave_ne (by decide) ?_) | go_values | go_skip | go_guarded | go_step)
  go_ret
  exact ⟨rfl, (by repeat (first | exact (Below.refl _ _).alloc (Nat.le_refl _) _ | refine Below.setCell ?_ (by simp) _) : Below w.heap.size w _).trans (HB1.out.mono (by simp))⟩

set_option maxRecDepth 100000 in
set_option maxHeartbeats 1000000 in
theorem exprMayBe_2 (w : World) (S : Nat → Prop) (_hS : ∀ k, S k → k < w.heap.size) (fs : ByteArray) (fn : Int) (fargs : List Ex) (fnames : List ByteArray) (ftypes : List Ty) (fmems : List Mm) (aA aN aT aM : Option Addr) (cA cN cT cM : Nat) (r : Bool)
    (_hs : fs.size ≤ maxLen) (_hlc : fargs.length ≤ cA) (_hE : ExsO w S fargs aA) (_hnc : fnames.length ≤ cN) (_hncm : cN ≤ maxLen) (_hNm : StrsO w S fnames aN)
    (hr : (decide (0 ≤ fn) && leftB fs 0 fargs.length fnames.length ftypes.length fmems.length) = r) :
    Calls Try.prog 31 #[.agg #[.int .i64 2, .string fs, .int .i64 fn, .slice aA fargs.length cA, .slice aN fnames.length cN, .slice aT ftypes.length cT, .slice aM fmems.length cM]] w fun e w' => e = .returned (.bool r) ∧ Below w.heap.size w w' := by
  rcases hc0 : decide (0 ≤ fn) with _ | _
  · rw [hc0, Bool.false_and] at hr
    subst hr
    have H0 := Lib.hid hc0
    clear hc0
    have T0 : ¬ 0 ≤ fn := by have := H0.out; simpa using this
    go_enter Try.func31, Try.ntmps31
    repeat (first | (with_reducible refine then_exit ?_) | (with_reducible refine then_normal ?_) | (with_reducible refine then_ret ?_) | (with_reducible refine leave_eq ?_) | (with_reducible refine leave_normal ?_) | (with_reducible refine leave_ret ?_) | (with_reducible refine leave_ne (by decide) ?_) | go_values | go_skip | go_guarded | go_step)
    go_ret
    exact ⟨rfl, by repeat (first | exact (Below.refl _ _).alloc (Nat.le_refl _) _ | refine Below.setCell ?_ (by simp) _)⟩
  rw [hc0, Bool.true_and] at hr
  have H0 := Lib.hid hc0
  clear hc0
  have T0 :  0 ≤ fn := by have := H0.out; simpa using this
  have HL := Lib.hid hr
  clear hr
  go_enter Try.func31, Try.ntmps31
  repeat (first | (with_reducible refine then_exit ?_) | (with_reducible refine then_normal ?_) | (with_reducible refine then_ret ?_) | (with_reducible refine leave_eq ?_) | (with_reducible refine leave_normal ?_) | (with_reducible refine leave_ret ?_) | (with_reducible refine leave_ne (by decide) ?_) | go_values | go_skip | go_guarded | go_step)
  refine (nothingLeft_r _ _ _ _ _ _ _ _ _ _ _ _ _ _ _ _ _ HL.out).mono ?_
  rintro e w1 ⟨rfl, hb1⟩
  have HB1 := Lib.hid hb1
  clear hb1
  dsimp only
  repeat (first | (with_reducible refine then_exit ?_) | (with_reducible refine then_normal ?_) | (with_reducible refine then_ret ?_) | (with_reducible refine leave_eq ?_) | (with_reducible refine leave_normal ?_) | (with_reducible refine leave_ret ?_) | (with_reducible refine leave_ne (by decide) ?_) | go_values | go_skip | go_guarded | go_step)
  go_ret
  exact ⟨rfl, (by repeat (first | exact (Below.refl _ _).alloc (Nat.le_refl _) _ | refine Below.setCell ?_ (by simp) _) : Below w.heap.size w _).trans (HB1.out.mono (by simp))⟩

set_option maxRecDepth 100000 in
set_option maxHeartbeats 1000000 in
theorem exprMayBe_4 (w : World) (S : Nat → Prop) (_hS : ∀ k, S k → k < w.heap.size) (fs : ByteArray) (fn : Int) (fargs : List Ex) (fnames : List ByteArray) (ftypes : List Ty) (fmems : List Mm) (aA aN aT aM : Option Addr) (cA cN cT cM : Nat) (r : Bool)
    (_hs : fs.size ≤ maxLen) (_hlc : fargs.length ≤ cA) (_hE : ExsO w S fargs aA) (_hnc : fnames.length ≤ cN) (_hncm : cN ≤ maxLen) (_hNm : StrsO w S fnames aN)
    (hr : (decide (fs.size ≤ 65536) && leftB ⟨#[]⟩ fn fargs.length fnames.length ftypes.length fmems.length) = r) :
    Calls Try.prog 31 #[.agg #[.int .i64 4, .string fs, .int .i64 fn, .slice aA fargs.length cA, .slice aN fnames.length cN, .slice aT ftypes.length cT, .slice aM fmems.length cM]] w fun e w' => e = .returned (.bool r) ∧ Below w.heap.size w w' := by
  rcases hc0 : decide (fs.size ≤ 65536) with _ | _
  · rw [hc0, Bool.false_and] at hr
    subst hr
    have H0 := Lib.hid hc0
    clear hc0
    have T0 : ¬ (fs.size : Int) ≤ 65536 := by have := H0.out; simp at this ⊢; omega
    go_enter Try.func31, Try.ntmps31
    repeat (first | (with_reducible refine then_exit ?_) | (with_reducible refine then_normal ?_) | (with_reducible refine then_ret ?_) | (with_reducible refine leave_eq ?_) | (with_reducible refine leave_normal ?_) | (with_reducible refine leave_ret ?_) | (with_reducible refine leave_ne (by decide) ?_) | go_values | go_skip | go_guarded | go_step)
    go_ret
    exact ⟨rfl, by repeat (first | exact (Below.refl _ _).alloc (Nat.le_refl _) _ | refine Below.setCell ?_ (by simp) _)⟩
  rw [hc0, Bool.true_and] at hr
  have H0 := Lib.hid hc0
  clear hc0
  have T0 :  (fs.size : Int) ≤ 65536 := by have := H0.out; simp at this ⊢; omega
  have HL := Lib.hid hr
  clear hr
  go_enter Try.func31, Try.ntmps31
  repeat (first | (with_reducible refine then_exit ?_) | (with_reducible refine then_normal ?_) | (with_reducible refine then_ret ?_) | (with_reducible refine leave_eq ?_) | (with_reducible refine leave_normal ?_) | (with_reducible refine leave_ret ?_) | (with_reducible refine leave_ne (by decide) ?_) | go_values | go_skip | go_guarded | go_step)
  refine (nothingLeft_r _ _ _ _ _ _ _ _ _ _ _ _ _ _ _ _ _ HL.out).mono ?_
  rintro e w1 ⟨rfl, hb1⟩
  have HB1 := Lib.hid hb1
  clear hb1
  dsimp only
  repeat (first | (with_reducible refine then_exit ?_) | (with_reducible refine then_normal ?_) | (with_reducible refine then_ret ?_) | (with_reducible refine leave_eq ?_) | (with_reducible refine leave_normal ?_) | (with_reducible refine leave_ret ?_) | (with_reducible refine leave_ne (by decide) ?_) | go_values | go_skip | go_guarded | go_step)
  go_ret
  exact ⟨rfl, (by repeat (first | exact (Below.refl _ _).alloc (Nat.le_refl _) _ | refine Below.setCell ?_ (by simp) _) : Below w.heap.size w _).trans (HB1.out.mono (by simp))⟩

set_option maxRecDepth 100000 in
set_option maxHeartbeats 1000000 in
theorem exprMayBe_9 (w : World) (S : Nat → Prop) (_hS : ∀ k, S k → k < w.heap.size) (fs : ByteArray) (fn : Int) (fargs : List Ex) (fnames : List ByteArray) (ftypes : List Ty) (fmems : List Mm) (aA aN aT aM : Option Addr) (cA cN cT cM : Nat) (r : Bool)
    (_hs : fs.size ≤ maxLen) (_hlc : fargs.length ≤ cA) (_hE : ExsO w S fargs aA) (_hnc : fnames.length ≤ cN) (_hncm : cN ≤ maxLen) (_hNm : StrsO w S fnames aN)
    (hr : (begins fargs && (Pl.nameB fs.data.toList && (decide (fargs.length = 2) && leftB ⟨#[]⟩ fn 0 fnames.length ftypes.length fmems.length))) = r) :
    Calls Try.prog 31 #[.agg #[.int .i64 9, .string fs, .int .i64 fn, .slice aA fargs.length cA, .slice aN fnames.length cN, .slice aT ftypes.length cT, .slice aM fmems.length cM]] w fun e w' => e = .returned (.bool r) ∧ Below w.heap.size w w' := by
  rcases hc0 : begins fargs with _ | _
  · rw [hc0, Bool.false_and] at hr
    subst hr
    have H0 := Lib.hid hc0
    clear hc0
    go_enter Try.func31, Try.ntmps31
    repeat (first | (with_reducible refine then_exit ?_) | (with_reducible refine then_normal ?_) | (with_reducible refine then_ret ?_) | (with_reducible refine leave_eq ?_) | (with_reducible refine leave_normal ?_) | (with_reducible refine leave_ret ?_) | (with_reducible refine leave_ne (by decide) ?_) | go_values | go_skip | go_guarded | go_step)
    refine (beginsWithFun_r _ S fargs aA cA _ (ExsO.keep (fun k hk => ⟨hk, Below.heap_alloc _ _ _ (_hS k hk)⟩) _ _ _hE) _hlc H0.out).mono ?_
    rintro e w1 ⟨rfl, rfl⟩
    dsimp only
    repeat (first | (with_reducible refine then_exit ?_) | (with_reducible refine then_normal ?_) | (with_reducible refine then_ret ?_) | (with_reducible refine leave_eq ?_) | (with_reducible refine leave_normal ?_) | (with_reducible refine leave_ret ?_) | (with_reducible refine leave_ne (by decide) ?_) | go_values | go_skip | go_guarded | go_step)
    go_ret
    exact ⟨rfl, by repeat (first | exact (Below.refl _ _).alloc (Nat.le_refl _) _ | refine Below.setCell ?_ (by simp) _)⟩
  rw [hc0, Bool.true_and] at hr
  have H0 := Lib.hid hc0
  clear hc0
  rcases hc1 : Pl.nameB fs.data.toList with _ | _
  · rw [hc1, Bool.false_and] at hr
    subst hr
    have H1 := Lib.hid hc1
    clear hc1
    go_enter Try.func31, Try.ntmps31
    repeat (first | (with_reducible refine then_exit ?_) | (with_reducible refine then_normal ?_) | (with_reducible refine then_ret ?_) | (with_reducible refine leave_eq ?_) | (with_reducible refine leave_normal ?_) | (with_reducible refine leave_ret ?_) | (with_reducible refine leave_ne (by decide) ?_) | go_values | go_skip | go_guarded | go_step)
    refine (beginsWithFun_r _ S fargs aA cA _ (ExsO.keep (fun k hk => ⟨hk, Below.heap_alloc _ _ _ (_hS k hk)⟩) _ _ _hE) _hlc H0.out).mono ?_
    rintro e w1 ⟨rfl, rfl⟩
    dsimp only
    repeat (first | (with_reducible refine then_exit ?_) | (with_reducible refine then_normal ?_) | (with_reducible refine then_ret ?_) | (with_reducible refine leave_eq ?_) | (with_reducible refine leave_normal ?_) | (with_reducible refine leave_ret ?_) | (with_reducible refine leave_ne (by decide) ?_) | go_values | go_skip | go_guarded | go_step)
    refine (takeName_r _ _ fs _ _ (by simp) (by simp) H1.out _hs).mono ?_
    rintro e w1 ⟨rfl, rfl⟩
    dsimp only
    repeat (first | (with_reducible refine then_exit ?_) | (with_reducible refine then_normal ?_) | (with_reducible refine then_ret ?_) | (with_reducible refine leave_eq ?_) | (with_reducible refine leave_normal ?_) | (with_reducible refine leave_ret ?_) | (with_reducible refine leave_ne (by decide) ?_) | go_values | go_skip | go_guarded | go_step)
    go_ret
    exact ⟨rfl, by repeat (first | exact (Below.refl _ _).alloc (Nat.le_refl _) _ | refine Below.setCell ?_ (by simp) _)⟩
  rw [hc1, Bool.true_and] at hr
  have H1 := Lib.hid hc1
  clear hc1
  rcases hc2 : decide (fargs.length = 2) with _ | _
  · rw [hc2, Bool.false_and] at hr
    subst hr
    have H2 := Lib.hid hc2
    clear hc2
    go_enter Try.func31, Try.ntmps31
    repeat (first | (with_reducible refine then_exit ?_) | (with_reducible refine then_normal ?_) | (with_reducible refine then_ret ?_) | (with_reducible refine leave_eq ?_) | (with_reducible refine leave_normal ?_) | (with_reducible refine leave_ret ?_) | (with_reducible refine leave_ne (by decide) ?_) | go_values | go_skip | go_guarded | go_step)
    refine (beginsWithFun_r _ S fargs aA cA _ (ExsO.keep (fun k hk => ⟨hk, Below.heap_alloc _ _ _ (_hS k hk)⟩) _ _ _hE) _hlc H0.out).mono ?_
    rintro e w1 ⟨rfl, rfl⟩
    dsimp only
    repeat (first | (with_reducible refine then_exit ?_) | (with_reducible refine then_normal ?_) | (with_reducible refine then_ret ?_) | (with_reducible refine leave_eq ?_) | (with_reducible refine leave_normal ?_) | (with_reducible refine leave_ret ?_) | (with_reducible refine leave_ne (by decide) ?_) | go_values | go_skip | go_guarded | go_step)
    refine (takeName_r _ _ fs _ _ (by simp) (by simp) H1.out _hs).mono ?_
    rintro e w1 ⟨rfl, rfl⟩
    dsimp only
    repeat (first | (with_reducible refine then_exit ?_) | (with_reducible refine then_normal ?_) | (with_reducible refine then_ret ?_) | (with_reducible refine leave_eq ?_) | (with_reducible refine leave_normal ?_) | (with_reducible refine leave_ret ?_) | (with_reducible refine leave_ne (by decide) ?_) | go_values | go_skip | go_guarded | go_step)
    refine (takeE_r _ _ fargs.length 2 aA cA _ _ (by simp) (by simp) H2.out).mono ?_
    rintro e w1 ⟨rfl, rfl⟩
    dsimp only
    repeat (first | (with_reducible refine then_exit ?_) | (with_reducible refine then_normal ?_) | (with_reducible refine then_ret ?_) | (with_reducible refine leave_eq ?_) | (with_reducible refine leave_normal ?_) | (with_reducible refine leave_ret ?_) | (with_reducible refine leave_ne (by decide) ?_) | go_values | go_skip | go_guarded | go_step)
    go_ret
    exact ⟨rfl, by repeat (first | exact (Below.refl _ _).alloc (Nat.le_refl _) _ | refine Below.setCell ?_ (by simp) _)⟩
  rw [hc2, Bool.true_and] at hr
  have H2 := Lib.hid hc2
  clear hc2
  have HL := Lib.hid hr
  clear hr
  go_enter Try.func31, Try.ntmps31
  repeat (first | (with_reducible refine then_exit ?_) | (with_reducible refine then_normal ?_) | (with_reducible refine then_ret ?_) | (with_reducible refine leave_eq ?_) | (with_reducible refine leave_normal ?_) | (with_reducible refine leave_ret ?_) | (with_reducible refine leave_ne (by decide) ?_) | go_values | go_skip | go_guarded | go_step)
  refine (beginsWithFun_r _ S fargs aA cA _ (ExsO.keep (fun k hk => ⟨hk, Below.heap_alloc _ _ _ (_hS k hk)⟩) _ _ _hE) _hlc H0.out).mono ?_
  rintro e w1 ⟨rfl, rfl⟩
  dsimp only
  repeat (first | (with_reducible refine then_exit ?_) | (with_reducible refine then_normal ?_) | (with_reducible refine then_ret ?_) | (with_reducible refine leave_eq ?_) | (with_reducible refine leave_normal ?_) | (with_reducible refine leave_ret ?_) | (with_reducible refine leave_ne (by decide) ?_) | go_values | go_skip | go_guarded | go_step)
  refine (takeName_r _ _ fs _ _ (by simp) (by simp) H1.out _hs).mono ?_
  rintro e w1 ⟨rfl, rfl⟩
  dsimp only
  repeat (first | (with_reducible refine then_exit ?_) | (with_reducible refine then_normal ?_) | (with_reducible refine then_ret ?_) | (with_reducible refine leave_eq ?_) | (with_reducible refine leave_normal ?_) | (with_reducible refine leave_ret ?_) | (with_reducible refine leave_ne (by decide) ?_) | go_values | go_skip | go_guarded | go_step)
  refine (takeE_r _ _ fargs.length 2 aA cA _ _ (by simp) (by simp) H2.out).mono ?_
  rintro e w1 ⟨rfl, rfl⟩
  dsimp only
  repeat (first | (with_reducible refine then_exit ?_) | (with_reducible refine then_normal ?_) | (with_reducible refine then_ret ?_) | (with_reducible refine leave_eq ?_) | (with_reducible refine leave_normal ?_) | (with_reducible refine leave_ret ?_) | (with_reducible refine leave_ne (by decide) ?_) | go_values | go_skip | go_guarded | go_step)
  refine (nothingLeft_r _ _ _ _ _ _ _ _ _ _ _ _ _ _ _ _ _ HL.out).mono ?_
  rintro e w1 ⟨rfl, hb1⟩
  have HB1 := Lib.hid hb1
  clear hb1
  dsimp only
  repeat (first | (with_reducible refine then_exit ?_) | (with_reducible refine then_normal ?_) | (with_reducible refine then_ret ?_) | (with_reducible refine leave_eq ?_) | (with_reducible refine leave_normal ?_) | (with_reducible refine leave_ret ?_) | (with_reducible refine leave_ne (by decide) ?_) | go_values | go_skip | go_guarded | go_step)
  go_ret
  exact ⟨rfl, (by repeat (first | exact (Below.refl _ _).alloc (Nat.le_refl _) _ | refine Below.setCell ?_ (by simp) _) : Below w.heap.size w _).trans (HB1.out.mono (by simp))⟩

set_option maxRecDepth 100000 in
set_option maxHeartbeats 1000000 in
theorem exprMayBe_8 (w : World) (S : Nat → Prop) (_hS : ∀ k, S k → k < w.heap.size) (fs : ByteArray) (fn : Int) (fargs : List Ex) (fnames : List ByteArray) (ftypes : List Ty) (fmems : List Mm) (aA aN aT aM : Option Addr) (cA cN cT cM : Nat) (r : Bool)
    (_hs : fs.size ≤ maxLen) (_hlc : fargs.length ≤ cA) (_hE : ExsO w S fargs aA) (_hnc : fnames.length ≤ cN) (_hncm : cN ≤ maxLen) (_hNm : StrsO w S fnames aN)
    (hr : (Pl.nameB fs.data.toList && (decide (fargs.length = 2) && leftB ⟨#[]⟩ fn 0 fnames.length ftypes.length fmems.length)) = r) :
    Calls Try.prog 31 #[.agg #[.int .i64 8, .string fs, .int .i64 fn, .slice aA fargs.length cA, .slice aN fnames.length cN, .slice aT ftypes.length cT, .slice aM fmems.length cM]] w fun e w' => e = .returned (.bool r) ∧ Below w.heap.size w w' := by
  rcases hc0 : Pl.nameB fs.data.toList with _ | _
  · rw [hc0, Bool.false_and] at hr
    subst hr
    have H0 := Lib.hid hc0
    clear hc0
    go_enter Try.func31, Try.ntmps31
    repeat (first | (with_reducible refine then_exit ?_) | (with_reducible refine then_normal ?_) | (with_reducible refine then_ret ?_) | (with_reducible refine leave_eq ?_) | (with_reducible refine leave_normal ?_) | (with_reducible refine leave_ret ?_) | (with_reducible refine leave_ne (by decide) ?_) | go_values | go_skip | go_guarded | go_step)
    refine (takeName_r _ _ fs _ _ (by simp) (by simp) H0.out _hs).mono ?_
    rintro e w1 ⟨rfl, rfl⟩
    dsimp only
    repeat (first | (with_reducible refine then_exit ?_) | (with_reducible refine then_normal ?_) | (with_reducible refine then_ret ?_) | (with_reducible refine leave_eq ?_) | (with_reducible refine leave_normal ?_) | (with_reducible refine leave_ret ?_) | (with_reducible refine leave_ne (by decide) ?_) | go_values | go_skip | go_guarded | go_step)
    go_ret
    exact ⟨rfl, by repeat (first | exact (Below.refl _ _).alloc (Nat.le_refl _) _ | refine Below.setCell ?_ (by simp) _)⟩
  rw [hc0, Bool.true_and] at hr
  have H0 := Lib.hid hc0
  clear hc0
  rcases hc1 : decide (fargs.length = 2) with _ | _
  · rw [hc1, Bool.false_and] at hr
    subst hr
    have H1 := Lib.hid hc1
    clear hc1
    go_enter Try.func31, Try.ntmps31
    repeat (first | (with_reducible refine then_exit ?_) | (with_reducible refine then_normal ?_) | (with_reducible refine then_ret ?_) | (with_reducible refine leave_eq ?_) | (with_reducible refine leave_normal ?_) | (with_reducible refine leave_ret ?_) | (with_reducible refine leave_ne (by decide) ?_) | go_values | go_skip | go_guarded | go_step)
    refine (takeName_r _ _ fs _ _ (by simp) (by simp) H0.out _hs).mono ?_
    rintro e w1 ⟨rfl, rfl⟩
    dsimp only
    repeat (first | (with_reducible refine then_exit ?_) | (with_reducible refine then_normal ?_) | (with_reducible refine then_ret ?_) | (with_reducible refine leave_eq ?_) | (with_reducible refine leave_normal ?_) | (with_reducible refine leave_ret ?_) | (with_reducible refine leave_ne (by decide) ?_) | go_values | go_skip | go_guarded | go_step)
    refine (takeE_r _ _ fargs.length 2 aA cA _ _ (by simp) (by simp) H1.out).mono ?_
    rintro e w1 ⟨rfl, rfl⟩
    dsimp only
    repeat (first | (with_reducible refine then_exit ?_) | (with_reducible refine then_normal ?_) | (with_reducible refine then_ret ?_) | (with_reducible refine leave_eq ?_) | (with_reducible refine leave_normal ?_) | (with_reducible refine leave_ret ?_) | (with_reducible refine leave_ne (by decide) ?_) | go_values | go_skip | go_guarded | go_step)
    go_ret
    exact ⟨rfl, by repeat (first | exact (Below.refl _ _).alloc (Nat.le_refl _) _ | refine Below.setCell ?_ (by simp) _)⟩
  rw [hc1, Bool.true_and] at hr
  have H1 := Lib.hid hc1
  clear hc1
  have HL := Lib.hid hr
  clear hr
  go_enter Try.func31, Try.ntmps31
  repeat (first | (with_reducible refine then_exit ?_) | (with_reducible refine then_normal ?_) | (with_reducible refine then_ret ?_) | (with_reducible refine leave_eq ?_) | (with_reducible refine leave_normal ?_) | (with_reducible refine leave_ret ?_) | (with_reducible refine leave_ne (by decide) ?_) | go_values | go_skip | go_guarded | go_step)
  refine (takeName_r _ _ fs _ _ (by simp) (by simp) H0.out _hs).mono ?_
  rintro e w1 ⟨rfl, rfl⟩
  dsimp only
  repeat (first | (with_reducible refine then_exit ?_) | (with_reducible refine then_normal ?_) | (with_reducible refine then_ret ?_) | (with_reducible refine leave_eq ?_) | (with_reducible refine leave_normal ?_) | (with_reducible refine leave_ret ?_) | (with_reducible refine leave_ne (by decide) ?_) | go_values | go_skip | go_guarded | go_step)
  refine (takeE_r _ _ fargs.length 2 aA cA _ _ (by simp) (by simp) H1.out).mono ?_
  rintro e w1 ⟨rfl, rfl⟩
  dsimp only
  repeat (first | (with_reducible refine then_exit ?_) | (with_reducible refine then_normal ?_) | (with_reducible refine then_ret ?_) | (with_reducible refine leave_eq ?_) | (with_reducible refine leave_normal ?_) | (with_reducible refine leave_ret ?_) | (with_reducible refine leave_ne (by decide) ?_) | go_values | go_skip | go_guarded | go_step)
  refine (nothingLeft_r _ _ _ _ _ _ _ _ _ _ _ _ _ _ _ _ _ HL.out).mono ?_
  rintro e w1 ⟨rfl, hb1⟩
  have HB1 := Lib.hid hb1
  clear hb1
  dsimp only
  repeat (first | (with_reducible refine then_exit ?_) | (with_reducible refine then_normal ?_) | (with_reducible refine then_ret ?_) | (with_reducible refine leave_eq ?_) | (with_reducible refine leave_normal ?_) | (with_reducible refine leave_ret ?_) | (with_reducible refine leave_ne (by decide) ?_) | go_values | go_skip | go_guarded | go_step)
  go_ret
  exact ⟨rfl, (by repeat (first | exact (Below.refl _ _).alloc (Nat.le_refl _) _ | refine Below.setCell ?_ (by simp) _) : Below w.heap.size w _).trans (HB1.out.mono (by simp))⟩

set_option maxRecDepth 100000 in
set_option maxHeartbeats 1000000 in
theorem exprMayBe_7 (w : World) (S : Nat → Prop) (_hS : ∀ k, S k → k < w.heap.size) (fs : ByteArray) (fn : Int) (fargs : List Ex) (fnames : List ByteArray) (ftypes : List Ty) (fmems : List Mm) (aA aN aT aM : Option Addr) (cA cN cT cM : Nat) (r : Bool)
    (_hs : fs.size ≤ maxLen) (_hlc : fargs.length ≤ cA) (_hE : ExsO w S fargs aA) (_hnc : fnames.length ≤ cN) (_hncm : cN ≤ maxLen) (_hNm : StrsO w S fnames aN)
    (hr : (decide (fargs.length = 2) && leftB fs fn 0 fnames.length ftypes.length fmems.length) = r) :
    Calls Try.prog 31 #[.agg #[.int .i64 7, .string fs, .int .i64 fn, .slice aA fargs.length cA, .slice aN fnames.length cN, .slice aT ftypes.length cT, .slice aM fmems.length cM]] w fun e w' => e = .returned (.bool r) ∧ Below w.heap.size w w' := by
  rcases hc0 : decide (fargs.length = 2) with _ | _
  · rw [hc0, Bool.false_and] at hr
    subst hr
    have H0 := Lib.hid hc0
    clear hc0
    go_enter Try.func31, Try.ntmps31
    repeat (first | (with_reducible refine then_exit ?_) | (with_reducible refine then_normal ?_) | (with_reducible refine then_ret ?_) | (with_reducible refine leave_eq ?_) | (with_reducible refine leave_normal ?_) | (with_reducible refine leave_ret ?_) | (with_reducible refine leave_ne (by decide) ?_) | go_values | go_skip | go_guarded | go_step)
    refine (takeE_r _ _ fargs.length 2 aA cA _ _ (by simp) (by simp) H0.out).mono ?_
    rintro e w1 ⟨rfl, rfl⟩
    dsimp only
    repeat (first | (with_reducible refine then_exit ?_) | (with_reducible refine then_normal ?_) | (with_reducible refine then_ret ?_) | (with_reducible refine leave_eq ?_) | (with_reducible refine leave_normal ?_) | (with_reducible refine leave_ret ?_) | (with_reducible refine leave_ne (by decide) ?_) | go_values | go_skip | go_guarded | go_step)
    go_ret
    exact ⟨rfl, by repeat (first | exact (Below.refl _ _).alloc (Nat.le_refl _) _ | refine Below.setCell ?_ (by simp) _)⟩
  rw [hc0, Bool.true_and] at hr
  have H0 := Lib.hid hc0
  clear hc0
  have HL := Lib.hid hr
  clear hr
  go_enter Try.func31, Try.ntmps31
  repeat (first | (with_reducible refine then_exit ?_) | (with_reducible refine then_normal ?_) | (with_reducible refine then_ret ?_) | (with_reducible refine leave_eq ?_) | (with_reducible refine leave_normal ?_) | (with_reducible refine leave_ret ?_) | (with_reducible refine leave_ne (by decide) ?_) | go_values | go_skip | go_guarded | go_step)
  refine (takeE_r _ _ fargs.length 2 aA cA _ _ (by simp) (by simp) H0.out).mono ?_
  rintro e w1 ⟨rfl, rfl⟩
  dsimp only
  repeat (first | (with_reducible refine then_exit ?_) | (with_reducible refine then_normal ?_) | (with_reducible refine then_ret ?_) | (with_reducible refine leave_eq ?_) | (with_reducible refine leave_normal ?_) | (with_reducible refine leave_ret ?_) | (with_reducible refine leave_ne (by decide) ?_) | go_values | go_skip | go_guarded | go_step)
  refine (nothingLeft_r _ _ _ _ _ _ _ _ _ _ _ _ _ _ _ _ _ HL.out).mono ?_
  rintro e w1 ⟨rfl, hb1⟩
  have HB1 := Lib.hid hb1
  clear hb1
  dsimp only
  repeat (first | (with_reducible refine then_exit ?_) | (with_reducible refine then_normal ?_) | (with_reducible refine then_ret ?_) | (with_reducible refine leave_eq ?_) | (with_reducible refine leave_normal ?_) | (with_reducible refine leave_ret ?_) | (with_reducible refine leave_ne (by decide) ?_) | go_values | go_skip | go_guarded | go_step)
  go_ret
  exact ⟨rfl, (by repeat (first | exact (Below.refl _ _).alloc (Nat.le_refl _) _ | refine Below.setCell ?_ (by simp) _) : Below w.heap.size w _).trans (HB1.out.mono (by simp))⟩

set_option maxRecDepth 100000 in
set_option maxHeartbeats 1000000 in
theorem exprMayBe_10 (w : World) (S : Nat → Prop) (_hS : ∀ k, S k → k < w.heap.size) (fs : ByteArray) (fn : Int) (fargs : List Ex) (fnames : List ByteArray) (ftypes : List Ty) (fmems : List Mm) (aA aN aT aM : Option Addr) (cA cN cT cM : Nat) (r : Bool)
    (_hs : fs.size ≤ maxLen) (_hlc : fargs.length ≤ cA) (_hE : ExsO w S fargs aA) (_hnc : fnames.length ≤ cN) (_hncm : cN ≤ maxLen) (_hNm : StrsO w S fnames aN)
    (hr : (decide (fargs.length = 2) && leftB fs fn 0 fnames.length ftypes.length fmems.length) = r) :
    Calls Try.prog 31 #[.agg #[.int .i64 10, .string fs, .int .i64 fn, .slice aA fargs.length cA, .slice aN fnames.length cN, .slice aT ftypes.length cT, .slice aM fmems.length cM]] w fun e w' => e = .returned (.bool r) ∧ Below w.heap.size w w' := by
  rcases hc0 : decide (fargs.length = 2) with _ | _
  · rw [hc0, Bool.false_and] at hr
    subst hr
    have H0 := Lib.hid hc0
    clear hc0
    go_enter Try.func31, Try.ntmps31
    repeat (first | (with_reducible refine then_exit ?_) | (with_reducible refine then_normal ?_) | (with_reducible refine then_ret ?_) | (with_reducible refine leave_eq ?_) | (with_reducible refine leave_normal ?_) | (with_reducible refine leave_ret ?_) | (with_reducible refine leave_ne (by decide) ?_) | go_values | go_skip | go_guarded | go_step)
    refine (takeE_r _ _ fargs.length 2 aA cA _ _ (by simp) (by simp) H0.out).mono ?_
    rintro e w1 ⟨rfl, rfl⟩
    dsimp only
    repeat (first | (with_reducible refine then_exit ?_) | (with_reducible refine then_normal ?_) | (with_reducible refine then_ret ?_) | (with_reducible refine leave_eq ?_) | (with_reducible refine leave_normal ?_) | (with_reducible refine leave_ret ?_) | (with_reducible refine leave_ne (by decide) ?_) | go_values | go_skip | go_guarded | go_step)
    go_ret
    exact ⟨rfl, by repeat (first | exact (Below.refl _ _).alloc (Nat.le_refl _) _ | refine Below.setCell ?_ (by simp) _)⟩
  rw [hc0, Bool.true_and] at hr
  have H0 := Lib.hid hc0
  clear hc0
  have HL := Lib.hid hr
  clear hr
  go_enter Try.func31, Try.ntmps31
  repeat (first | (with_reducible refine then_exit ?_) | (with_reducible refine then_normal ?_) | (with_reducible refine then_ret ?_) | (with_reducible refine leave_eq ?_) | (with_reducible refine leave_normal ?_) | (with_reducible refine leave_ret ?_) | (with_reducible refine leave_ne (by decide) ?_) | go_values | go_skip | go_guarded | go_step)
  refine (takeE_r _ _ fargs.length 2 aA cA _ _ (by simp) (by simp) H0.out).mono ?_
  rintro e w1 ⟨rfl, rfl⟩
  dsimp only
  repeat (first | (with_reducible refine then_exit ?_) | (with_reducible refine then_normal ?_) | (with_reducible refine then_ret ?_) | (with_reducible refine leave_eq ?_) | (with_reducible refine leave_normal ?_) | (with_reducible refine leave_ret ?_) | (with_reducible refine leave_ne (by decide) ?_) | go_values | go_skip | go_guarded | go_step)
  refine (nothingLeft_r _ _ _ _ _ _ _ _ _ _ _ _ _ _ _ _ _ HL.out).mono ?_
  rintro e w1 ⟨rfl, hb1⟩
  have HB1 := Lib.hid hb1
  clear hb1
  dsimp only
  repeat (first | (with_reducible refine then_exit ?_) | (with_reducible refine then_normal ?_) | (with_reducible refine then_ret ?_) | (with_reducible refine leave_eq ?_) | (with_reducible refine leave_normal ?_) | (with_reducible refine leave_ret ?_) | (with_reducible refine leave_ne (by decide) ?_) | go_values | go_skip | go_guarded | go_step)
  go_ret
  exact ⟨rfl, (by repeat (first | exact (Below.refl _ _).alloc (Nat.le_refl _) _ | refine Below.setCell ?_ (by simp) _) : Below w.heap.size w _).trans (HB1.out.mono (by simp))⟩

set_option maxRecDepth 100000 in
set_option maxHeartbeats 1000000 in
theorem exprMayBe_13 (w : World) (S : Nat → Prop) (_hS : ∀ k, S k → k < w.heap.size) (fs : ByteArray) (fn : Int) (fargs : List Ex) (fnames : List ByteArray) (ftypes : List Ty) (fmems : List Mm) (aA aN aT aM : Option Addr) (cA cN cT cM : Nat) (r : Bool)
    (_hs : fs.size ≤ maxLen) (_hlc : fargs.length ≤ cA) (_hE : ExsO w S fargs aA) (_hnc : fnames.length ≤ cN) (_hncm : cN ≤ maxLen) (_hNm : StrsO w S fnames aN)
    (hr : (decide (fargs.length = 2) && leftB fs fn 0 fnames.length ftypes.length fmems.length) = r) :
    Calls Try.prog 31 #[.agg #[.int .i64 13, .string fs, .int .i64 fn, .slice aA fargs.length cA, .slice aN fnames.length cN, .slice aT ftypes.length cT, .slice aM fmems.length cM]] w fun e w' => e = .returned (.bool r) ∧ Below w.heap.size w w' := by
  rcases hc0 : decide (fargs.length = 2) with _ | _
  · rw [hc0, Bool.false_and] at hr
    subst hr
    have H0 := Lib.hid hc0
    clear hc0
    go_enter Try.func31, Try.ntmps31
    repeat (first | (with_reducible refine then_exit ?_) | (with_reducible refine then_normal ?_) | (with_reducible refine then_ret ?_) | (with_reducible refine leave_eq ?_) | (with_reducible refine leave_normal ?_) | (with_reducible refine leave_ret ?_) | (with_reducible refine leave_ne (by decide) ?_) | go_values | go_skip | go_guarded | go_step)
    refine (takeE_r _ _ fargs.length 2 aA cA _ _ (by simp) (by simp) H0.out).mono ?_
    rintro e w1 ⟨rfl, rfl⟩
    dsimp only
    repeat (first | (with_reducible refine then_exit ?_) | (with_reducible refine then_normal ?_) | (with_reducible refine then_ret ?_) | (with_reducible refine leave_eq ?_) | (with_reducible refine leave_normal ?_) | (with_reducible refine leave_ret ?_) | (with_reducible refine leave_ne (by decide) ?_) | go_values | go_skip | go_guarded | go_step)
    go_ret
    exact ⟨rfl, by repeat (first | exact (Below.refl _ _).alloc (Nat.le_refl _) _ | refine Below.setCell ?_ (by simp) _)⟩
  rw [hc0, Bool.true_and] at hr
  have H0 := Lib.hid hc0
  clear hc0
  have HL := Lib.hid hr
  clear hr
  go_enter Try.func31, Try.ntmps31
  repeat (first | (with_reducible refine then_exit ?_) | (with_reducible refine then_normal ?_) | (with_reducible refine then_ret ?_) | (with_reducible refine leave_eq ?_) | (with_reducible refine leave_normal ?_) | (with_reducible refine leave_ret ?_) | (with_reducible refine leave_ne (by decide) ?_) | go_values | go_skip | go_guarded | go_step)
  refine (takeE_r _ _ fargs.length 2 aA cA _ _ (by simp) (by simp) H0.out).mono ?_
  rintro e w1 ⟨rfl, rfl⟩
  dsimp only
  repeat (first | (with_reducible refine then_exit ?_) | (with_reducible refine then_normal ?_) | (with_reducible refine then_ret ?_) | (with_reducible refine leave_eq ?_) | (with_reducible refine leave_normal ?_) | (with_reducible refine leave_ret ?_) | (with_reducible refine leave_ne (by decide) ?_) | go_values | go_skip | go_guarded | go_step)
  refine (nothingLeft_r _ _ _ _ _ _ _ _ _ _ _ _ _ _ _ _ _ HL.out).mono ?_
  rintro e w1 ⟨rfl, hb1⟩
  have HB1 := Lib.hid hb1
  clear hb1
  dsimp only
  repeat (first | (with_reducible refine then_exit ?_) | (with_reducible refine then_normal ?_) | (with_reducible refine then_ret ?_) | (with_reducible refine leave_eq ?_) | (with_reducible refine leave_normal ?_) | (with_reducible refine leave_ret ?_) | (with_reducible refine leave_ne (by decide) ?_) | go_values | go_skip | go_guarded | go_step)
  go_ret
  exact ⟨rfl, (by repeat (first | exact (Below.refl _ _).alloc (Nat.le_refl _) _ | refine Below.setCell ?_ (by simp) _) : Below w.heap.size w _).trans (HB1.out.mono (by simp))⟩

set_option maxRecDepth 100000 in
set_option maxHeartbeats 1000000 in
theorem exprMayBe_11 (w : World) (S : Nat → Prop) (_hS : ∀ k, S k → k < w.heap.size) (fs : ByteArray) (fn : Int) (fargs : List Ex) (fnames : List ByteArray) (ftypes : List Ty) (fmems : List Mm) (aA aN aT aM : Option Addr) (cA cN cT cM : Nat) (r : Bool)
    (_hs : fs.size ≤ maxLen) (_hlc : fargs.length ≤ cA) (_hE : ExsO w S fargs aA) (_hnc : fnames.length ≤ cN) (_hncm : cN ≤ maxLen) (_hNm : StrsO w S fnames aN)
    (hr : (decide (fargs.length = 3) && leftB fs fn 0 fnames.length ftypes.length fmems.length) = r) :
    Calls Try.prog 31 #[.agg #[.int .i64 11, .string fs, .int .i64 fn, .slice aA fargs.length cA, .slice aN fnames.length cN, .slice aT ftypes.length cT, .slice aM fmems.length cM]] w fun e w' => e = .returned (.bool r) ∧ Below w.heap.size w w' := by
  rcases hc0 : decide (fargs.length = 3) with _ | _
  · rw [hc0, Bool.false_and] at hr
    subst hr
    have H0 := Lib.hid hc0
    clear hc0
    go_enter Try.func31, Try.ntmps31
    repeat (first | (with_reducible refine then_exit ?_) | (with_reducible refine then_normal ?_) | (with_reducible refine then_ret ?_) | (with_reducible refine leave_eq ?_) | (with_reducible refine leave_normal ?_) | (with_reducible refine leave_ret ?_) | (with_reducible refine leave_ne (by decide) ?_) | go_values | go_skip | go_guarded | go_step)
    refine (takeE_r _ _ fargs.length 3 aA cA _ _ (by simp) (by simp) H0.out).mono ?_
    rintro e w1 ⟨rfl, rfl⟩
    dsimp only
    repeat (first | (with_reducible refine then_exit ?_) | (with_reducible refine then_normal ?_) | (with_reducible refine then_ret ?_) | (with_reducible refine leave_eq ?_) | (with_reducible refine leave_normal ?_) | (with_reducible refine leave_ret ?_) | (with_reducible refine leave_ne (by decide) ?_) | go_values | go_skip | go_guarded | go_step)
    go_ret
    exact ⟨rfl, by repeat (first | exact (Below.refl _ _).alloc (Nat.le_refl _) _ | refine Below.setCell ?_ (by simp) _)⟩
  rw [hc0, Bool.true_and] at hr
  have H0 := Lib.hid hc0
  clear hc0
  have HL := Lib.hid hr
  clear hr
  go_enter Try.func31, Try.ntmps31
  repeat (first | (with_reducible refine then_exit ?_) | (with_reducible refine then_normal ?_) | (with_reducible refine then_ret ?_) | (with_reducible refine leave_eq ?_) | (with_reducible refine leave_normal ?_) | (with_reducible refine leave_ret ?_) | (with_reducible refine leave_ne (by decide) ?_) | go_values | go_skip | go_guarded | go_step)
  refine (takeE_r _ _ fargs.length 3 aA cA _ _ (by simp) (by simp) H0.out).mono ?_
  rintro e w1 ⟨rfl, rfl⟩
  dsimp only
  repeat (first | (with_reducible refine then_exit ?_) | (with_reducible refine then_normal ?_) | (with_reducible refine then_ret ?_) | (with_reducible refine leave_eq ?_) | (with_reducible refine leave_normal ?_) | (with_reducible refine leave_ret ?_) | (with_reducible refine leave_ne (by decide) ?_) | go_values | go_skip | go_guarded | go_step)
  refine (nothingLeft_r _ _ _ _ _ _ _ _ _ _ _ _ _ _ _ _ _ HL.out).mono ?_
  rintro e w1 ⟨rfl, hb1⟩
  have HB1 := Lib.hid hb1
  clear hb1
  dsimp only
  repeat (first | (with_reducible refine then_exit ?_) | (with_reducible refine then_normal ?_) | (with_reducible refine then_ret ?_) | (with_reducible refine leave_eq ?_) | (with_reducible refine leave_normal ?_) | (with_reducible refine leave_ret ?_) | (with_reducible refine leave_ne (by decide) ?_) | go_values | go_skip | go_guarded | go_step)
  go_ret
  exact ⟨rfl, (by repeat (first | exact (Below.refl _ _).alloc (Nat.le_refl _) _ | refine Below.setCell ?_ (by simp) _) : Below w.heap.size w _).trans (HB1.out.mono (by simp))⟩

set_option maxRecDepth 100000 in
set_option maxHeartbeats 1000000 in
theorem exprMayBe_12 (w : World) (S : Nat → Prop) (_hS : ∀ k, S k → k < w.heap.size) (fs : ByteArray) (fn : Int) (fargs : List Ex) (fnames : List ByteArray) (ftypes : List Ty) (fmems : List Mm) (aA aN aT aM : Option Addr) (cA cN cT cM : Nat) (r : Bool)
    (_hs : fs.size ≤ maxLen) (_hlc : fargs.length ≤ cA) (_hE : ExsO w S fargs aA) (_hnc : fnames.length ≤ cN) (_hncm : cN ≤ maxLen) (_hNm : StrsO w S fnames aN)
    (hr : (opB fs.data.toList && (decide (fargs.length = 2) && leftB ⟨#[]⟩ fn 0 fnames.length ftypes.length fmems.length)) = r) :
    Calls Try.prog 31 #[.agg #[.int .i64 12, .string fs, .int .i64 fn, .slice aA fargs.length cA, .slice aN fnames.length cN, .slice aT ftypes.length cT, .slice aM fmems.length cM]] w fun e w' => e = .returned (.bool r) ∧ Below w.heap.size w w' := by
  rcases hc0 : opB fs.data.toList with _ | _
  · rw [hc0, Bool.false_and] at hr
    subst hr
    have H0 := Lib.hid hc0
    clear hc0
    go_enter Try.func31, Try.ntmps31
    repeat (first | (with_reducible refine then_exit ?_) | (with_reducible refine then_normal ?_) | (with_reducible refine then_ret ?_) | (with_reducible refine leave_eq ?_) | (with_reducible refine leave_normal ?_) | (with_reducible refine leave_ret ?_) | (with_reducible refine leave_ne (by decide) ?_) | go_values | go_skip | go_guarded | go_step)
    refine (takeOp_r _ _ fs _ _ (by simp) (by simp) H0.out).mono ?_
    rintro e w1 ⟨rfl, rfl⟩
    dsimp only
    repeat (first | (with_reducible refine then_exit ?_) | (with_reducible refine then_normal ?_) | (with_reducible refine then_ret ?_) | (with_reducible refine leave_eq ?_) | (with_reducible refine leave_normal ?_) | (with_reducible refine leave_ret ?_) | (with_reducible refine leave_ne (by decide) ?_) | go_values | go_skip | go_guarded | go_step)
    go_ret
    exact ⟨rfl, by repeat (first | exact (Below.refl _ _).alloc (Nat.le_refl _) _ | refine Below.setCell ?_ (by simp) _)⟩
  rw [hc0, Bool.true_and] at hr
  have H0 := Lib.hid hc0
  clear hc0
  rcases hc1 : decide (fargs.length = 2) with _ | _
  · rw [hc1, Bool.false_and] at hr
    subst hr
    have H1 := Lib.hid hc1
    clear hc1
    go_enter Try.func31, Try.ntmps31
    repeat (first | (with_reducible refine then_exit ?_) | (with_reducible refine then_normal ?_) | (with_reducible refine then_ret ?_) | (with_reducible refine leave_eq ?_) | (with_reducible refine leave_normal ?_) | (with_reducible refine leave_ret ?_) | (with_reducible refine leave_ne (by decide) ?_) | go_values | go_skip | go_guarded | go_step)
    refine (takeOp_r _ _ fs _ _ (by simp) (by simp) H0.out).mono ?_
    rintro e w1 ⟨rfl, rfl⟩
    dsimp only
    repeat (first | (with_reducible refine then_exit ?_) | (with_reducible refine then_normal ?_) | (with_reducible refine then_ret ?_) | (with_reducible refine leave_eq ?_) | (with_reducible refine leave_normal ?_) | (with_reducible refine leave_ret ?_) | (with_reducible refine leave_ne (by decide) ?_) | go_values | go_skip | go_guarded | go_step)
    refine (takeE_r _ _ fargs.length 2 aA cA _ _ (by simp) (by simp) H1.out).mono ?_
    rintro e w1 ⟨rfl, rfl⟩
    dsimp only
    repeat (first | (with_reducible refine then_exit ?_) | (with_reducible refine then_normal ?_) | (with_reducible refine then_ret ?_) | (with_reducible refine leave_eq ?_) | (with_reducible refine leave_normal ?_) | (with_reducible refine leave_ret ?_) | (with_reducible refine leave_ne (by decide) ?_) | go_values | go_skip | go_guarded | go_step)
    go_ret
    exact ⟨rfl, by repeat (first | exact (Below.refl _ _).alloc (Nat.le_refl _) _ | refine Below.setCell ?_ (by simp) _)⟩
  rw [hc1, Bool.true_and] at hr
  have H1 := Lib.hid hc1
  clear hc1
  have HL := Lib.hid hr
  clear hr
  go_enter Try.func31, Try.ntmps31
  repeat (first | (with_reducible refine then_exit ?_) | (with_reducible refine then_normal ?_) | (with_reducible refine then_ret ?_) | (with_reducible refine leave_eq ?_) | (with_reducible refine leave_normal ?_) | (with_reducible refine leave_ret ?_) | (with_reducible refine leave_ne (by decide) ?_) | go_values | go_skip | go_guarded | go_step)
  refine (takeOp_r _ _ fs _ _ (by simp) (by simp) H0.out).mono ?_
  rintro e w1 ⟨rfl, rfl⟩
  dsimp only
  repeat (first | (with_reducible refine then_exit ?_) | (with_reducible refine then_normal ?_) | (with_reducible refine then_ret ?_) | (with_reducible refine leave_eq ?_) | (with_reducible refine leave_normal ?_) | (with_reducible refine leave_ret ?_) | (with_reducible refine leave_ne (by decide) ?_) | go_values | go_skip | go_guarded | go_step)
  refine (takeE_r _ _ fargs.length 2 aA cA _ _ (by simp) (by simp) H1.out).mono ?_
  rintro e w1 ⟨rfl, rfl⟩
  dsimp only
  repeat (first | (with_reducible refine then_exit ?_) | (with_reducible refine then_normal ?_) | (with_reducible refine then_ret ?_) | (with_reducible refine leave_eq ?_) | (with_reducible refine leave_normal ?_) | (with_reducible refine leave_ret ?_) | (with_reducible refine leave_ne (by decide) ?_) | go_values | go_skip | go_guarded | go_step)
  refine (nothingLeft_r _ _ _ _ _ _ _ _ _ _ _ _ _ _ _ _ _ HL.out).mono ?_
  rintro e w1 ⟨rfl, hb1⟩
  have HB1 := Lib.hid hb1
  clear hb1
  dsimp only
  repeat (first | (with_reducible refine then_exit ?_) | (with_reducible refine then_normal ?_) | (with_reducible refine then_ret ?_) | (with_reducible refine leave_eq ?_) | (with_reducible refine leave_normal ?_) | (with_reducible refine leave_ret ?_) | (with_reducible refine leave_ne (by decide) ?_) | go_values | go_skip | go_guarded | go_step)
  go_ret
  exact ⟨rfl, (by repeat (first | exact (Below.refl _ _).alloc (Nat.le_refl _) _ | refine Below.setCell ?_ (by simp) _) : Below w.heap.size w _).trans (HB1.out.mono (by simp))⟩

set_option maxRecDepth 100000 in
set_option maxHeartbeats 1000000 in
theorem exprMayBe_6 (w : World) (S : Nat → Prop) (_hS : ∀ k, S k → k < w.heap.size) (fs : ByteArray) (fn : Int) (fargs : List Ex) (fnames : List ByteArray) (ftypes : List Ty) (fmems : List Mm) (aA aN aT aM : Option Addr) (cA cN cT cM : Nat) (r : Bool)
    (_hs : fs.size ≤ maxLen) (_hlc : fargs.length ≤ cA) (_hE : ExsO w S fargs aA) (_hnc : fnames.length ≤ cN) (_hncm : cN ≤ maxLen) (_hNm : StrsO w S fnames aN)
    (hr : (decide (fargs.length = 1) && (Pl.nameB fs.data.toList && leftB ⟨#[]⟩ fn 0 fnames.length ftypes.length fmems.length)) = r) :
    Calls Try.prog 31 #[.agg #[.int .i64 6, .string fs, .int .i64 fn, .slice aA fargs.length cA, .slice aN fnames.length cN, .slice aT ftypes.length cT, .slice aM fmems.length cM]] w fun e w' => e = .returned (.bool r) ∧ Below w.heap.size w w' := by
  rcases hc0 : decide (fargs.length = 1) with _ | _
  · rw [hc0, Bool.false_and] at hr
    subst hr
    have H0 := Lib.hid hc0
    clear hc0
    have T0 : ((fargs.length : Int) == 1) = false := by have := H0.out; simp at this ⊢; omega
    go_enter Try.func31, Try.ntmps31
    repeat (first | (with_reducible refine then_exit ?_) | (with_reducible refine then_normal ?_) | (with_reducible refine then_ret ?_) | (with_reducible refine leave_eq ?_) | (with_reducible refine leave_normal ?_) | (with_reducible refine leave_ret ?_) | (with_reducible refine leave_ne (by decide) ?_) | go_values | go_skip | go_guarded | go_step)
    go_ret
    exact ⟨rfl, by repeat (first | exact (Below.refl _ _).alloc (Nat.le_refl _) _ | refine Below.setCell ?_ (by simp) _)⟩
  rw [hc0, Bool.true_and] at hr
  have H0 := Lib.hid hc0
  clear hc0
  have T0 : ((fargs.length : Int) == 1) = true := by have := H0.out; simp at this ⊢; omega
  rcases hc1 : Pl.nameB fs.data.toList with _ | _
  · rw [hc1, Bool.false_and] at hr
    subst hr
    have H1 := Lib.hid hc1
    clear hc1
    go_enter Try.func31, Try.ntmps31
    repeat (first | (with_reducible refine then_exit ?_) | (with_reducible refine then_normal ?_) | (with_reducible refine then_ret ?_) | (with_reducible refine leave_eq ?_) | (with_reducible refine leave_normal ?_) | (with_reducible refine leave_ret ?_) | (with_reducible refine leave_ne (by decide) ?_) | go_values | go_skip | go_guarded | go_step)
    refine (takeName_r _ _ fs _ _ (by simp) (by simp) H1.out _hs).mono ?_
    rintro e w1 ⟨rfl, rfl⟩
    dsimp only
    repeat (first | (with_reducible refine then_exit ?_) | (with_reducible refine then_normal ?_) | (with_reducible refine then_ret ?_) | (with_reducible refine leave_eq ?_) | (with_reducible refine leave_normal ?_) | (with_reducible refine leave_ret ?_) | (with_reducible refine leave_ne (by decide) ?_) | go_values | go_skip | go_guarded | go_step)
    go_ret
    exact ⟨rfl, by repeat (first | exact (Below.refl _ _).alloc (Nat.le_refl _) _ | refine Below.setCell ?_ (by simp) _)⟩
  rw [hc1, Bool.true_and] at hr
  have H1 := Lib.hid hc1
  clear hc1
  have HL := Lib.hid hr
  clear hr
  go_enter Try.func31, Try.ntmps31
  repeat (first | (with_reducible refine then_exit ?_) | (with_reducible refine then_normal ?_) | (with_reducible refine then_ret ?_) | (with_reducible refine leave_eq ?_) | (with_reducible refine leave_normal ?_) | (with_reducible refine leave_ret ?_) | (with_reducible refine leave_ne (by decide) ?_) | go_values | go_skip | go_guarded | go_step)
  refine (takeName_r _ _ fs _ _ (by simp) (by simp) H1.out _hs).mono ?_
  rintro e w1 ⟨rfl, rfl⟩
  dsimp only
  repeat (first | (with_reducible refine then_exit ?_) | (with_reducible refine then_normal ?_) | (with_reducible refine then_ret ?_) | (with_reducible refine leave_eq ?_) | (with_reducible refine leave_normal ?_) | (with_reducible refine leave_ret ?_) | (with_reducible refine leave_ne (by decide) ?_) | go_values | go_skip | go_guarded | go_step)
  refine (nothingLeft_r _ _ _ _ _ _ _ _ _ _ _ _ _ _ _ _ _ HL.out).mono ?_
  rintro e w1 ⟨rfl, hb1⟩
  have HB1 := Lib.hid hb1
  clear hb1
  dsimp only
  repeat (first | (with_reducible refine then_exit ?_) | (with_reducible refine then_normal ?_) | (with_reducible refine then_ret ?_) | (with_reducible refine leave_eq ?_) | (with_reducible refine leave_normal ?_) | (with_reducible refine leave_ret ?_) | (with_reducible refine leave_ne (by decide) ?_) | go_values | go_skip | go_guarded | go_step)
  go_ret
  exact ⟨rfl, (by repeat (first | exact (Below.refl _ _).alloc (Nat.le_refl _) _ | refine Below.setCell ?_ (by simp) _) : Below w.heap.size w _).trans (HB1.out.mono (by simp))⟩

set_option maxRecDepth 100000 in
set_option maxHeartbeats 1000000 in
theorem exprMayBe_15 (w : World) (S : Nat → Prop) (_hS : ∀ k, S k → k < w.heap.size) (fs : ByteArray) (fn : Int) (fargs : List Ex) (fnames : List ByteArray) (ftypes : List Ty) (fmems : List Mm) (aA aN aT aM : Option Addr) (cA cN cT cM : Nat) (r : Bool)
    (_hs : fs.size ≤ maxLen) (_hlc : fargs.length ≤ cA) (_hE : ExsO w S fargs aA) (_hnc : fnames.length ≤ cN) (_hncm : cN ≤ maxLen) (_hNm : StrsO w S fnames aN)
    (hr : (decide (fargs.length = 1) && (Pl.nameB fs.data.toList && leftB ⟨#[]⟩ fn 0 fnames.length ftypes.length fmems.length)) = r) :
    Calls Try.prog 31 #[.agg #[.int .i64 15, .string fs, .int .i64 fn, .slice aA fargs.length cA, .slice aN fnames.length cN, .slice aT ftypes.length cT, .slice aM fmems.length cM]] w fun e w' => e = .returned (.bool r) ∧ Below w.heap.size w w' := by
  rcases hc0 : decide (fargs.length = 1) with _ | _
  · rw [hc0, Bool.false_and] at hr
    subst hr
    have H0 := Lib.hid hc0
    clear hc0
    have T0 : ((fargs.length : Int) == 1) = false := by have := H0.out; simp at this ⊢; omega
    go_enter Try.func31, Try.ntmps31
    repeat (first | (with_reducible refine then_exit ?_) | (with_reducible refine then_normal ?_) | (with_reducible refine then_ret ?_) | (with_reducible refine leave_eq ?_) | (with_reducible refine leave_normal ?_) | (with_reducible refine leave_ret ?_) | (with_reducible refine leave_ne (by decide) ?_) | go_values | go_skip | go_guarded | go_step)
    go_ret
    exact ⟨rfl, by repeat (first | exact (Below.refl _ _).alloc (Nat.le_refl _) _ | refine Below.setCell ?_ (by simp) _)⟩
  rw [hc0, Bool.true_and] at hr
  have H0 := Lib.hid hc0
  clear hc0
  have T0 : ((fargs.length : Int) == 1) = true := by have := H0.out; simp at this ⊢; omega
  rcases hc1 : Pl.nameB fs.data.toList with _ | _
  · rw [hc1, Bool.false_and] at hr
    subst hr
    have H1 := Lib.hid hc1
    clear hc1
    go_enter Try.func31, Try.ntmps31
    repeat (first | (with_reducible refine then_exit ?_) | (with_reducible refine then_normal ?_) | (with_reducible refine then_ret ?_) | (with_reducible refine leave_eq ?_) | (with_reducible refine leave_normal ?_) | (with_reducible refine leave_ret ?_) | (with_reducible refine leave_ne (by decide) ?_) | go_values | go_skip | go_guarded | go_step)
    refine (takeName_r _ _ fs _ _ (by simp) (by simp) H1.out _hs).mono ?_
    rintro e w1 ⟨rfl, rfl⟩
    dsimp only
    repeat (first | (with_reducible refine then_exit ?_) | (with_reducible refine then_normal ?_) | (with_reducible refine then_ret ?_) | (with_reducible refine leave_eq ?_) | (with_reducible refine leave_normal ?_) | (with_reducible refine leave_ret ?_) | (with_reducible refine leave_ne (by decide) ?_) | go_values | go_skip | go_guarded | go_step)
    go_ret
    exact ⟨rfl, by repeat (first | exact (Below.refl _ _).alloc (Nat.le_refl _) _ | refine Below.setCell ?_ (by simp) _)⟩
  rw [hc1, Bool.true_and] at hr
  have H1 := Lib.hid hc1
  clear hc1
  have HL := Lib.hid hr
  clear hr
  go_enter Try.func31, Try.ntmps31
  repeat (first | (with_reducible refine then_exit ?_) | (with_reducible refine then_normal ?_) | (with_reducible refine then_ret ?_) | (with_reducible refine leave_eq ?_) | (with_reducible refine leave_normal ?_) | (with_reducible refine leave_ret ?_) | (with_reducible refine leave_ne (by decide) ?_) | go_values | go_skip | go_guarded | go_step)
  refine (takeName_r _ _ fs _ _ (by simp) (by simp) H1.out _hs).mono ?_
  rintro e w1 ⟨rfl, rfl⟩
  dsimp only
  repeat (first | (with_reducible refine then_exit ?_) | (with_reducible refine then_normal ?_) | (with_reducible refine then_ret ?_) | (with_reducible refine leave_eq ?_) | (with_reducible refine leave_normal ?_) | (with_reducible refine leave_ret ?_) | (with_reducible refine leave_ne (by decide) ?_) | go_values | go_skip | go_guarded | go_step)
  refine (nothingLeft_r _ _ _ _ _ _ _ _ _ _ _ _ _ _ _ _ _ HL.out).mono ?_
  rintro e w1 ⟨rfl, hb1⟩
  have HB1 := Lib.hid hb1
  clear hb1
  dsimp only
  repeat (first | (with_reducible refine then_exit ?_) | (with_reducible refine then_normal ?_) | (with_reducible refine then_ret ?_) | (with_reducible refine leave_eq ?_) | (with_reducible refine leave_normal ?_) | (with_reducible refine leave_ret ?_) | (with_reducible refine leave_ne (by decide) ?_) | go_values | go_skip | go_guarded | go_step)
  go_ret
  exact ⟨rfl, (by repeat (first | exact (Below.refl _ _).alloc (Nat.le_refl _) _ | refine Below.setCell ?_ (by simp) _) : Below w.heap.size w _).trans (HB1.out.mono (by simp))⟩

set_option maxRecDepth 100000 in
set_option maxHeartbeats 1000000 in
theorem exprMayBe_16 (w : World) (S : Nat → Prop) (_hS : ∀ k, S k → k < w.heap.size) (fs : ByteArray) (fn : Int) (fargs : List Ex) (fnames : List ByteArray) (ftypes : List Ty) (fmems : List Mm) (aA aN aT aM : Option Addr) (cA cN cT cM : Nat) (r : Bool)
    (_hs : fs.size ≤ maxLen) (_hlc : fargs.length ≤ cA) (_hE : ExsO w S fargs aA) (_hnc : fnames.length ≤ cN) (_hncm : cN ≤ maxLen) (_hNm : StrsO w S fnames aN)
    (hr : (decide (fargs.length = 1) && (Pl.nameB fs.data.toList && leftB ⟨#[]⟩ fn 0 fnames.length ftypes.length fmems.length)) = r) :
    Calls Try.prog 31 #[.agg #[.int .i64 16, .string fs, .int .i64 fn, .slice aA fargs.length cA, .slice aN fnames.length cN, .slice aT ftypes.length cT, .slice aM fmems.length cM]] w fun e w' => e = .returned (.bool r) ∧ Below w.heap.size w w' := by
  rcases hc0 : decide (fargs.length = 1) with _ | _
  · rw [hc0, Bool.false_and] at hr
    subst hr
    have H0 := Lib.hid hc0
    clear hc0
    have T0 : ((fargs.length : Int) == 1) = false := by have := H0.out; simp at this ⊢; omega
    go_enter Try.func31, Try.ntmps31
    repeat (first | (with_reducible refine then_exit ?_) | (with_reducible refine then_normal ?_) | (with_reducible refine then_ret ?_) | (with_reducible refine leave_eq ?_) | (with_reducible refine leave_normal ?_) | (with_reducible refine leave_ret ?_) | (with_reducible refine leave_ne (by decide) ?_) | go_values | go_skip | go_guarded | go_step)
    go_ret
    exact ⟨rfl, by repeat (first | exact (Below.refl _ _).alloc (Nat.le_refl _) _ | refine Below.setCell ?_ (by simp) _)⟩
  rw [hc0, Bool.true_and] at hr
  have H0 := Lib.hid hc0
  clear hc0
  have T0 : ((fargs.length : Int) == 1) = true := by have := H0.out; simp at this ⊢; omega
  rcases hc1 : Pl.nameB fs.data.toList with _ | _
  · rw [hc1, Bool.false_and] at hr
    subst hr
    have H1 := Lib.hid hc1
    clear hc1
    go_enter Try.func31, Try.ntmps31
    repeat (first | (with_reducible refine then_exit ?_) | (with_reducible refine then_normal ?_) | (with_reducible refine then_ret ?_) | (with_reducible refine leave_eq ?_) | (with_reducible refine leave_normal ?_) | (with_reducible refine leave_ret ?_) | (with_reducible refine leave_ne (by decide) ?_) | go_values | go_skip | go_guarded | go_step)
    refine (takeName_r _ _ fs _ _ (by simp) (by simp) H1.out _hs).mono ?_
    rintro e w1 ⟨rfl, rfl⟩
    dsimp only
    repeat (first | (with_reducible refine then_exit ?_) | (with_reducible refine then_normal ?_) | (with_reducible refine then_ret ?_) | (with_reducible refine leave_eq ?_) | (with_reducible refine leave_normal ?_) | (with_reducible refine leave_ret ?_) | (with_reducible refine leave_ne (by decide) ?_) | go_values | go_skip | go_guarded | go_step)
    go_ret
    exact ⟨rfl, by repeat (first | exact (Below.refl _ _).alloc (Nat.le_refl _) _ | refine Below.setCell ?_ (by simp) _)⟩
  rw [hc1, Bool.true_and] at hr
  have H1 := Lib.hid hc1
  clear hc1
  have HL := Lib.hid hr
  clear hr
  go_enter Try.func31, Try.ntmps31
  repeat (first | (with_reducible refine then_exit ?_) | (with_reducible refine then_normal ?_) | (with_reducible refine then_ret ?_) | (with_reducible refine leave_eq ?_) | (with_reducible refine leave_normal ?_) | (with_reducible refine leave_ret ?_) | (with_reducible refine leave_ne (by decide) ?_) | go_values | go_skip | go_guarded | go_step)
  refine (takeName_r _ _ fs _ _ (by simp) (by simp) H1.out _hs).mono ?_
  rintro e w1 ⟨rfl, rfl⟩
  dsimp only
  repeat (first | (with_reducible refine then_exit ?_) | (with_reducible refine then_normal ?_) | (with_reducible refine then_ret ?_) | (with_reducible refine leave_eq ?_) | (with_reducible refine leave_normal ?_) | (with_reducible refine leave_ret ?_) | (with_reducible refine leave_ne (by decide) ?_) | go_values | go_skip | go_guarded | go_step)
  refine (nothingLeft_r _ _ _ _ _ _ _ _ _ _ _ _ _ _ _ _ _ HL.out).mono ?_
  rintro e w1 ⟨rfl, hb1⟩
  have HB1 := Lib.hid hb1
  clear hb1
  dsimp only
  repeat (first | (with_reducible refine then_exit ?_) | (with_reducible refine then_normal ?_) | (with_reducible refine then_ret ?_) | (with_reducible refine leave_eq ?_) | (with_reducible refine leave_normal ?_) | (with_reducible refine leave_ret ?_) | (with_reducible refine leave_ne (by decide) ?_) | go_values | go_skip | go_guarded | go_step)
  go_ret
  exact ⟨rfl, (by repeat (first | exact (Below.refl _ _).alloc (Nat.le_refl _) _ | refine Below.setCell ?_ (by simp) _) : Below w.heap.size w _).trans (HB1.out.mono (by simp))⟩

set_option maxRecDepth 100000 in
set_option maxHeartbeats 1000000 in
theorem exprMayBe_17 (w : World) (S : Nat → Prop) (_hS : ∀ k, S k → k < w.heap.size) (fs : ByteArray) (fn : Int) (fargs : List Ex) (fnames : List ByteArray) (ftypes : List Ty) (fmems : List Mm) (aA aN aT aM : Option Addr) (cA cN cT cM : Nat) (r : Bool)
    (_hs : fs.size ≤ maxLen) (_hlc : fargs.length ≤ cA) (_hE : ExsO w S fargs aA) (_hnc : fnames.length ≤ cN) (_hncm : cN ≤ maxLen) (_hNm : StrsO w S fnames aN)
    (hr : (Pl.nameB fs.data.toList && leftB ⟨#[]⟩ fn 0 fnames.length ftypes.length fmems.length) = r) :
    Calls Try.prog 31 #[.agg #[.int .i64 17, .string fs, .int .i64 fn, .slice aA fargs.length cA, .slice aN fnames.length cN, .slice aT ftypes.length cT, .slice aM fmems.length cM]] w fun e w' => e = .returned (.bool r) ∧ Below w.heap.size w w' := by
  rcases hc0 : Pl.nameB fs.data.toList with _ | _
  · rw [hc0, Bool.false_and] at hr
    subst hr
    have H0 := Lib.hid hc0
    clear hc0
    go_enter Try.func31, Try.ntmps31
    repeat (first | (with_reducible refine then_exit ?_) | (with_reducible refine then_normal ?_) | (with_reducible refine then_ret ?_) | (with_reducible refine leave_eq ?_) | (with_reducible refine leave_normal ?_) | (with_reducible refine leave_ret ?_) | (with_reducible refine leave_ne (by decide) ?_) | go_values | go_skip | go_guarded | go_step)
    refine (takeName_r _ _ fs _ _ (by simp) (by simp) H0.out _hs).mono ?_
    rintro e w1 ⟨rfl, rfl⟩
    dsimp only
    repeat (first | (with_reducible refine then_exit ?_) | (with_reducible refine then_normal ?_) | (with_reducible refine then_ret ?_) | (with_reducible refine leave_eq ?_) | (with_reducible refine leave_normal ?_) | (with_reducible refine leave_ret ?_) | (with_reducible refine leave_ne (by decide) ?_) | go_values | go_skip | go_guarded | go_step)
    go_ret
    exact ⟨rfl, by repeat (first | exact (Below.refl _ _).alloc (Nat.le_refl _) _ | refine Below.setCell ?_ (by simp) _)⟩
  rw [hc0, Bool.true_and] at hr
  have H0 := Lib.hid hc0
  clear hc0
  have HL := Lib.hid hr
  clear hr
  go_enter Try.func31, Try.ntmps31
  repeat (first | (with_reducible refine then_exit ?_) | (with_reducible refine then_normal ?_) | (with_reducible refine then_ret ?_) | (with_reducible refine leave_eq ?_) | (with_reducible refine leave_normal ?_) | (with_reducible refine leave_ret ?_) | (with_reducible refine leave_ne (by decide) ?_) | go_values | go_skip | go_guarded | go_step)
  refine (takeName_r _ _ fs _ _ (by simp) (by simp) H0.out _hs).mono ?_
  rintro e w1 ⟨rfl, rfl⟩
  dsimp only
  repeat (first | (with_reducible refine then_exit ?_) | (with_reducible refine then_normal ?_) | (with_reducible refine then_ret ?_) | (with_reducible refine leave_eq ?_) | (with_reducible refine leave_normal ?_) | (with_reducible refine leave_ret ?_) | (with_reducible refine leave_ne (by decide) ?_) | go_values | go_skip | go_guarded | go_step)
  refine (nothingLeft_r _ _ _ _ _ _ _ _ _ _ _ _ _ _ _ _ _ HL.out).mono ?_
  rintro e w1 ⟨rfl, hb1⟩
  have HB1 := Lib.hid hb1
  clear hb1
  dsimp only
  repeat (first | (with_reducible refine then_exit ?_) | (with_reducible refine then_normal ?_) | (with_reducible refine then_ret ?_) | (with_reducible refine leave_eq ?_) | (with_reducible refine leave_normal ?_) | (with_reducible refine leave_ret ?_) | (with_reducible refine leave_ne (by decide) ?_) | go_values | go_skip | go_guarded | go_step)
  go_ret
  exact ⟨rfl, (by repeat (first | exact (Below.refl _ _).alloc (Nat.le_refl _) _ | refine Below.setCell ?_ (by simp) _) : Below w.heap.size w _).trans (HB1.out.mono (by simp))⟩

set_option maxRecDepth 100000 in
set_option maxHeartbeats 1000000 in
theorem exprMayBe_1 (w : World) (S : Nat → Prop) (_hS : ∀ k, S k → k < w.heap.size) (fs : ByteArray) (fn : Int) (fargs : List Ex) (fnames : List ByteArray) (ftypes : List Ty) (fmems : List Mm) (aA aN aT aM : Option Addr) (cA cN cT cM : Nat) (r : Bool)
    (_hs : fs.size ≤ maxLen) (_hlc : fargs.length ≤ cA) (_hE : ExsO w S fargs aA) (_hnc : fnames.length ≤ cN) (_hncm : cN ≤ maxLen) (_hNm : StrsO w S fnames aN)
    (hr : (Pl.nameB fs.data.toList && leftB ⟨#[]⟩ fn fargs.length fnames.length ftypes.length fmems.length) = r) :
    Calls Try.prog 31 #[.agg #[.int .i64 1, .string fs, .int .i64 fn, .slice aA fargs.length cA, .slice aN fnames.length cN, .slice aT ftypes.length cT, .slice aM fmems.length cM]] w fun e w' => e = .returned (.bool r) ∧ Below w.heap.size w w' := by
  rcases hc0 : Pl.nameB fs.data.toList with _ | _
  · rw [hc0, Bool.false_and] at hr
    subst hr
    have H0 := Lib.hid hc0
    clear hc0
    go_enter Try.func31, Try.ntmps31
    repeat (first | (with_reducible refine then_exit ?_) | (with_reducible refine then_normal ?_) | (with_reducible refine then_ret ?_) | (with_reducible refine leave_eq ?_) | (with_reducible refine leave_normal ?_) | (with_reducible refine leave_ret ?_) | (with_reducible refine leave_ne (by decide) ?_) | go_values | go_skip | go_guarded | go_step)
    refine (takeName_r _ _ fs _ _ (by simp) (by simp) H0.out _hs).mono ?_
    rintro e w1 ⟨rfl, rfl⟩
    dsimp only
    repeat (first | (with_reducible refine then_exit ?_) | (with_reducible refine then_normal ?_) | (with_reducible refine then_ret ?_) | (with_reducible refine leave_eq ?_) | (with_reducible refine leave_normal ?_) | (with_reducible refine leave_ret ?_) | (with_reducible refine leave_ne (by decide) ?_) | go_values | go_skip | go_guarded | go_step)
    go_ret
    exact ⟨rfl, by repeat (first | exact (Below.refl _ _).alloc (Nat.le_refl _) _ | refine Below.setCell ?_ (by simp) _)⟩
  rw [hc0, Bool.true_and] at hr
  have H0 := Lib.hid hc0
  clear hc0
  have HL := Lib.hid hr
  clear hr
  go_enter Try.func31, Try.ntmps31
  repeat (first | (with_reducible refine then_exit ?_) | (with_reducible refine then_normal ?_) | (with_reducible refine then_ret ?_) | (with_reducible refine leave_eq ?_) | (with_reducible refine leave_normal ?_) | (with_reducible refine leave_ret ?_) | (with_reducible refine leave_ne (by decide) ?_) | go_values | go_skip | go_guarded | go_step)
  refine (takeName_r _ _ fs _ _ (by simp) (by simp) H0.out _hs).mono ?_
  rintro e w1 ⟨rfl, rfl⟩
  dsimp only
  repeat (first | (with_reducible refine then_exit ?_) | (with_reducible refine then_normal ?_) | (with_reducible refine then_ret ?_) | (with_reducible refine leave_eq ?_) | (with_reducible refine leave_normal ?_) | (with_reducible refine leave_ret ?_) | (with_reducible refine leave_ne (by decide) ?_) | go_values | go_skip | go_guarded | go_step)
  refine (nothingLeft_r _ _ _ _ _ _ _ _ _ _ _ _ _ _ _ _ _ HL.out).mono ?_
  rintro e w1 ⟨rfl, hb1⟩
  have HB1 := Lib.hid hb1
  clear hb1
  dsimp only
  repeat (first | (with_reducible refine then_exit ?_) | (with_reducible refine then_normal ?_) | (with_reducible refine then_ret ?_) | (with_reducible refine leave_eq ?_) | (with_reducible refine leave_normal ?_) | (with_reducible refine leave_ret ?_) | (with_reducible refine leave_ne (by decide) ?_) | go_values | go_skip | go_guarded | go_step)
  go_ret
  exact ⟨rfl, (by repeat (first | exact (Below.refl _ _).alloc (Nat.le_refl _) _ | refine Below.setCell ?_ (by simp) _) : Below w.heap.size w _).trans (HB1.out.mono (by simp))⟩

set_option maxRecDepth 100000 in
set_option maxHeartbeats 1000000 in
theorem exprMayBe_18 (w : World) (S : Nat → Prop) (_hS : ∀ k, S k → k < w.heap.size) (fs : ByteArray) (fn : Int) (fargs : List Ex) (fnames : List ByteArray) (ftypes : List Ty) (fmems : List Mm) (aA aN aT aM : Option Addr) (cA cN cT cM : Nat) (r : Bool)
    (_hs : fs.size ≤ maxLen) (_hlc : fargs.length ≤ cA) (_hE : ExsO w S fargs aA) (_hnc : fnames.length ≤ cN) (_hncm : cN ≤ maxLen) (_hNm : StrsO w S fnames aN)
    (hr : (decide (fargs.length = fnames.length) && (namesB fnames && leftB fs fn 0 0 ftypes.length fmems.length)) = r) :
    Calls Try.prog 31 #[.agg #[.int .i64 18, .string fs, .int .i64 fn, .slice aA fargs.length cA, .slice aN fnames.length cN, .slice aT ftypes.length cT, .slice aM fmems.length cM]] w fun e w' => e = .returned (.bool r) ∧ Below w.heap.size w w' := by
  rcases hc0 : decide (fargs.length = fnames.length) with _ | _
  · rw [hc0, Bool.false_and] at hr
    subst hr
    have H0 := Lib.hid hc0
    clear hc0
    go_enter Try.func31, Try.ntmps31
    repeat (first | (with_reducible refine then_exit ?_) | (with_reducible refine then_normal ?_) | (with_reducible refine then_ret ?_) | (with_reducible refine leave_eq ?_) | (with_reducible refine leave_normal ?_) | (with_reducible refine leave_ret ?_) | (with_reducible refine leave_ne (by decide) ?_) | go_values | go_skip | go_guarded | go_step)
    refine (takeE_r _ _ fargs.length fnames.length aA cA _ _ (by simp) (by simp) H0.out).mono ?_
    rintro e w1 ⟨rfl, rfl⟩
    dsimp only
    repeat (first | (with_reducible refine then_exit ?_) | (with_reducible refine then_normal ?_) | (with_reducible refine then_ret ?_) | (with_reducible refine leave_eq ?_) | (with_reducible refine leave_normal ?_) | (with_reducible refine leave_ret ?_) | (with_reducible refine leave_ne (by decide) ?_) | go_values | go_skip | go_guarded | go_step)
    go_ret
    exact ⟨rfl, by repeat (first | exact (Below.refl _ _).alloc (Nat.le_refl _) _ | refine Below.setCell ?_ (by simp) _)⟩
  rw [hc0, Bool.true_and] at hr
  have H0 := Lib.hid hc0
  clear hc0
  rcases hc1 : namesB fnames with _ | _
  · rw [hc1, Bool.false_and] at hr
    subst hr
    have H1 := Lib.hid hc1
    clear hc1
    go_enter Try.func31, Try.ntmps31
    repeat (first | (with_reducible refine then_exit ?_) | (with_reducible refine then_normal ?_) | (with_reducible refine then_ret ?_) | (with_reducible refine leave_eq ?_) | (with_reducible refine leave_normal ?_) | (with_reducible refine leave_ret ?_) | (with_reducible refine leave_ne (by decide) ?_) | go_values | go_skip | go_guarded | go_step)
    refine (takeE_r _ _ fargs.length fnames.length aA cA _ _ (by simp) (by simp) H0.out).mono ?_
    rintro e w1 ⟨rfl, rfl⟩
    dsimp only
    repeat (first | (with_reducible refine then_exit ?_) | (with_reducible refine then_normal ?_) | (with_reducible refine then_ret ?_) | (with_reducible refine leave_eq ?_) | (with_reducible refine leave_normal ?_) | (with_reducible refine leave_ret ?_) | (with_reducible refine leave_ne (by decide) ?_) | go_values | go_skip | go_guarded | go_step)
    refine (takeNames_r _ _ fnames aN cN S _ _ (by simp) (by simp) (by exact StrsO.keep (fun k hk => ⟨hk, (by repeat (first | exact (Below.refl _ _).alloc (Nat.le_refl _) _ | refine Below.setCell ?_ (by simp) _) : Below w.heap.size w _).block k (_hS k hk)⟩) _ _ _hNm) _hnc _hncm H1.out).mono ?_
    rintro e w1 ⟨rfl, hw1⟩
    simp at hw1
    subst hw1
    dsimp only
    repeat (first | (with_reducible refine then_exit ?_) | (with_reducible refine then_normal ?_) | (with_reducible refine then_ret ?_) | (with_reducible refine leave_eq ?_) | (with_reducible refine leave_normal ?_) | (with_reducible refine leave_ret ?_) | (with_reducible refine leave_ne (by decide) ?_) | go_values | go_skip | go_guarded | go_step)
    go_ret
    exact ⟨rfl, by repeat (first | exact (Below.refl _ _).alloc (Nat.le_refl _) _ | refine Below.setCell ?_ (by simp) _)⟩
  rw [hc1, Bool.true_and] at hr
  have H1 := Lib.hid hc1
  clear hc1
  have HL := Lib.hid hr
  clear hr
  go_enter Try.func31, Try.ntmps31
  repeat (first | (with_reducible refine then_exit ?_) | (with_reducible refine then_normal ?_) | (with_reducible refine then_ret ?_) | (with_reducible refine leave_eq ?_) | (with_reducible refine leave_normal ?_) | (with_reducible refine leave_ret ?_) | (with_reducible refine leave_ne (by decide) ?_) | go_values | go_skip | go_guarded | go_step)
  refine (takeE_r _ _ fargs.length fnames.length aA cA _ _ (by simp) (by simp) H0.out).mono ?_
  rintro e w1 ⟨rfl, rfl⟩
  dsimp only
  repeat (first | (with_reducible refine then_exit ?_) | (with_reducible refine then_normal ?_) | (with_reducible refine then_ret ?_) | (with_reducible refine leave_eq ?_) | (with_reducible refine leave_normal ?_) | (with_reducible refine leave_ret ?_) | (with_reducible refine leave_ne (by decide) ?_) | go_values | go_skip | go_guarded | go_step)
  refine (takeNames_r _ _ fnames aN cN S _ _ (by simp) (by simp) (by exact StrsO.keep (fun k hk => ⟨hk, (by repeat (first | exact (Below.refl _ _).alloc (Nat.le_refl _) _ | refine Below.setCell ?_ (by simp) _) : Below w.heap.size w _).block k (_hS k hk)⟩) _ _ _hNm) _hnc _hncm H1.out).mono ?_
  rintro e w1 ⟨rfl, hw1⟩
  simp at hw1
  subst hw1
  dsimp only
  repeat (first | (with_reducible refine then_exit ?_) | (with_reducible refine then_normal ?_) | (with_reducible refine then_ret ?_) | (with_reducible refine leave_eq ?_) | (with_reducible refine leave_normal ?_) | (with_reducible refine leave_ret ?_) | (with_reducible refine leave_ne (by decide) ?_) | go_values | go_skip | go_guarded | go_step)
  refine (nothingLeft_r _ _ _ _ _ _ _ _ _ _ _ _ _ _ _ _ _ HL.out).mono ?_
  rintro e w1 ⟨rfl, hb1⟩
  have HB1 := Lib.hid hb1
  clear hb1
  dsimp only
  repeat (first | (with_reducible refine then_exit ?_) | (with_reducible refine then_normal ?_) | (with_reducible refine then_ret ?_) | (with_reducible refine leave_eq ?_) | (with_reducible refine leave_normal ?_) | (with_reducible refine leave_ret ?_) | (with_reducible refine leave_ne (by decide) ?_) | go_values | go_skip | go_guarded | go_step)
  go_ret
  exact ⟨rfl, (by repeat (first | exact (Below.refl _ _).alloc (Nat.le_refl _) _ | refine Below.setCell ?_ (by simp) _) : Below w.heap.size w _).trans (HB1.out.mono (by simp))⟩

set_option maxRecDepth 100000 in
set_option maxHeartbeats 1000000 in
theorem exprMayBe_19 (w : World) (S : Nat → Prop) (_hS : ∀ k, S k → k < w.heap.size) (fs : ByteArray) (fn : Int) (fargs : List Ex) (fnames : List ByteArray) (ftypes : List Ty) (fmems : List Mm) (aA aN aT aM : Option Addr) (cA cN cT cM : Nat) (r : Bool)
    (_hs : fs.size ≤ maxLen) (_hlc : fargs.length ≤ cA) (_hE : ExsO w S fargs aA) (_hnc : fnames.length ≤ cN) (_hncm : cN ≤ maxLen) (_hNm : StrsO w S fnames aN)
    (hr : (decide (ftypes.length = 1) && (decide (fargs.length = 1) && leftB fs fn 0 fnames.length 0 fmems.length)) = r) :
    Calls Try.prog 31 #[.agg #[.int .i64 19, .string fs, .int .i64 fn, .slice aA fargs.length cA, .slice aN fnames.length cN, .slice aT ftypes.length cT, .slice aM fmems.length cM]] w fun e w' => e = .returned (.bool r) ∧ Below w.heap.size w w' := by
  rcases hc0 : decide (ftypes.length = 1) with _ | _
  · rw [hc0, Bool.false_and] at hr
    subst hr
    have H0 := Lib.hid hc0
    clear hc0
    go_enter Try.func31, Try.ntmps31
    repeat (first | (with_reducible refine then_exit ?_) | (with_reducible refine then_normal ?_) | (with_reducible refine then_ret ?_) | (with_reducible refine leave_eq ?_) | (with_reducible refine leave_normal ?_) | (with_reducible refine leave_ret ?_) | (with_reducible refine leave_ne (by decide) ?_) | go_values | go_skip | go_guarded | go_step)
    refine (takeT_r _ _ ftypes.length 1 aT cT _ _ (by simp) (by simp) H0.out).mono ?_
    rintro e w1 ⟨rfl, rfl⟩
    dsimp only
    repeat (first | (with_reducible refine then_exit ?_) | (with_reducible refine then_normal ?_) | (with_reducible refine then_ret ?_) | (with_reducible refine leave_eq ?_) | (with_reducible refine leave_normal ?_) | (with_reducible refine leave_ret ?_) | (with_reducible refine leave_ne (by decide) ?_) | go_values | go_skip | go_guarded | go_step)
    go_ret
    exact ⟨rfl, by repeat (first | exact (Below.refl _ _).alloc (Nat.le_refl _) _ | refine Below.setCell ?_ (by simp) _)⟩
  rw [hc0, Bool.true_and] at hr
  have H0 := Lib.hid hc0
  clear hc0
  rcases hc1 : decide (fargs.length = 1) with _ | _
  · rw [hc1, Bool.false_and] at hr
    subst hr
    have H1 := Lib.hid hc1
    clear hc1
    go_enter Try.func31, Try.ntmps31
    repeat (first | (with_reducible refine then_exit ?_) | (with_reducible refine then_normal ?_) | (with_reducible refine then_ret ?_) | (with_reducible refine leave_eq ?_) | (with_reducible refine leave_normal ?_) | (with_reducible refine leave_ret ?_) | (with_reducible refine leave_ne (by decide) ?_) | go_values | go_skip | go_guarded | go_step)
    refine (takeT_r _ _ ftypes.length 1 aT cT _ _ (by simp) (by simp) H0.out).mono ?_
    rintro e w1 ⟨rfl, rfl⟩
    dsimp only
    repeat (first | (with_reducible refine then_exit ?_) | (with_reducible refine then_normal ?_) | (with_reducible refine then_ret ?_) | (with_reducible refine leave_eq ?_) | (with_reducible refine leave_normal ?_) | (with_reducible refine leave_ret ?_) | (with_reducible refine leave_ne (by decide) ?_) | go_values | go_skip | go_guarded | go_step)
    refine (takeE_r _ _ fargs.length 1 aA cA _ _ (by simp) (by simp) H1.out).mono ?_
    rintro e w1 ⟨rfl, rfl⟩
    dsimp only
    repeat (first | (with_reducible refine then_exit ?_) | (with_reducible refine then_normal ?_) | (with_reducible refine then_ret ?_) | (with_reducible refine leave_eq ?_) | (with_reducible refine leave_normal ?_) | (with_reducible refine leave_ret ?_) | (with_reducible refine leave_ne (by decide) ?_) | go_values | go_skip | go_guarded | go_step)
    go_ret
    exact ⟨rfl, by repeat (first | exact (Below.refl _ _).alloc (Nat.le_refl _) _ | refine Below.setCell ?_ (by simp) _)⟩
  rw [hc1, Bool.true_and] at hr
  have H1 := Lib.hid hc1
  clear hc1
  have HL := Lib.hid hr
  clear hr
  go_enter Try.func31, Try.ntmps31
  repeat (first | (with_reducible refine then_exit ?_) | (with_reducible refine then_normal ?_) | (with_reducible refine then_ret ?_) | (with_reducible refine leave_eq ?_) | (with_reducible refine leave_normal ?_) | (with_reducible refine leave_ret ?_) | (with_reducible refine leave_ne (by decide) ?_) | go_values | go_skip | go_guarded | go_step)
  refine (takeT_r _ _ ftypes.length 1 aT cT _ _ (by simp) (by simp) H0.out).mono ?_
  rintro e w1 ⟨rfl, rfl⟩
  dsimp only
  repeat (first | (with_reducible refine then_exit ?_) | (with_reducible refine then_normal ?_) | (with_reducible refine then_ret ?_) | (with_reducible refine leave_eq ?_) | (with_reducible refine leave_normal ?_) | (with_reducible refine leave_ret ?_) | (with_reducible refine leave_ne (by decide) ?_) | go_values | go_skip | go_guarded | go_step)
  refine (takeE_r _ _ fargs.length 1 aA cA _ _ (by simp) (by simp) H1.out).mono ?_
  rintro e w1 ⟨rfl, rfl⟩
  dsimp only
  repeat (first | (with_reducible refine then_exit ?_) | (with_reducible refine then_normal ?_) | (with_reducible refine then_ret ?_) | (with_reducible refine leave_eq ?_) | (with_reducible refine leave_normal ?_) | (with_reducible refine leave_ret ?_) | (with_reducible refine leave_ne (by decide) ?_) | go_values | go_skip | go_guarded | go_step)
  refine (nothingLeft_r _ _ _ _ _ _ _ _ _ _ _ _ _ _ _ _ _ HL.out).mono ?_
  rintro e w1 ⟨rfl, hb1⟩
  have HB1 := Lib.hid hb1
  clear hb1
  dsimp only
  repeat (first | (with_reducible refine then_exit ?_) | (with_reducible refine then_normal ?_) | (with_reducible refine then_ret ?_) | (with_reducible refine leave_eq ?_) | (with_reducible refine leave_normal ?_) | (with_reducible refine leave_ret ?_) | (with_reducible refine leave_ne (by decide) ?_) | go_values | go_skip | go_guarded | go_step)
  go_ret
  exact ⟨rfl, (by repeat (first | exact (Below.refl _ _).alloc (Nat.le_refl _) _ | refine Below.setCell ?_ (by simp) _) : Below w.heap.size w _).trans (HB1.out.mono (by simp))⟩

set_option maxRecDepth 100000 in
set_option maxHeartbeats 1000000 in
theorem exprMayBe_20 (w : World) (S : Nat → Prop) (_hS : ∀ k, S k → k < w.heap.size) (fs : ByteArray) (fn : Int) (fargs : List Ex) (fnames : List ByteArray) (ftypes : List Ty) (fmems : List Mm) (aA aN aT aM : Option Addr) (cA cN cT cM : Nat) (r : Bool)
    (_hs : fs.size ≤ maxLen) (_hlc : fargs.length ≤ cA) (_hE : ExsO w S fargs aA) (_hnc : fnames.length ≤ cN) (_hncm : cN ≤ maxLen) (_hNm : StrsO w S fnames aN)
    (hr : (decide (ftypes.length = 2) && (decide (fargs.length = 1) && leftB fs fn 0 fnames.length 0 fmems.length)) = r) :
    Calls Try.prog 31 #[.agg #[.int .i64 20, .string fs, .int .i64 fn, .slice aA fargs.length cA, .slice aN fnames.length cN, .slice aT ftypes.length cT, .slice aM fmems.length cM]] w fun e w' => e = .returned (.bool r) ∧ Below w.heap.size w w' := by
  rcases hc0 : decide (ftypes.length = 2) with _ | _
  · rw [hc0, Bool.false_and] at hr
    subst hr
    have H0 := Lib.hid hc0
    clear hc0
    go_enter Try.func31, Try.ntmps31
    repeat (first | (with_reducible refine then_exit ?_) | (with_reducible refine then_normal ?_) | (with_reducible refine then_ret ?_) | (with_reducible refine leave_eq ?_) | (with_reducible refine leave_normal ?_) | (with_reducible refine leave_ret ?_) | (with_reducible refine leave_ne (by decide) ?_) | go_values | go_skip | go_guarded | go_step)
    refine (takeT_r _ _ ftypes.length 2 aT cT _ _ (by simp) (by simp) H0.out).mono ?_
    rintro e w1 ⟨rfl, rfl⟩
    dsimp only
    repeat (first | (with_reducible refine then_exit ?_) | (with_reducible refine then_normal ?_) | (with_reducible refine then_ret ?_) | (with_reducible refine leave_eq ?_) | (with_reducible refine leave_normal ?_) | (with_reducible refine leave_ret ?_) | (with_reducible refine leave_ne (by decide) ?_) | go_values | go_skip | go_guarded | go_step)
    go_ret
    exact ⟨rfl, by repeat (first | exact (Below.refl _ _).alloc (Nat.le_refl _) _ | refine Below.setCell ?_ (by simp) _)⟩
  rw [hc0, Bool.true_and] at hr
  have H0 := Lib.hid hc0
  clear hc0
  rcases hc1 : decide (fargs.length = 1) with _ | _
  · rw [hc1, Bool.false_and] at hr
    subst hr
    have H1 := Lib.hid hc1
    clear hc1
    go_enter Try.func31, Try.ntmps31
    repeat (first | (with_reducible refine then_exit ?_) | (with_reducible refine then_normal ?_) | (with_reducible refine then_ret ?_) | (with_reducible refine leave_eq ?_) | (with_reducible refine leave_normal ?_) | (with_reducible refine leave_ret ?_) | (with_reducible refine leave_ne (by decide) ?_) | go_values | go_skip | go_guarded | go_step)
    refine (takeT_r _ _ ftypes.length 2 aT cT _ _ (by simp) (by simp) H0.out).mono ?_
    rintro e w1 ⟨rfl, rfl⟩
    dsimp only
    repeat (first | (with_reducible refine then_exit ?_) | (with_reducible refine then_normal ?_) | (with_reducible refine then_ret ?_) | (with_reducible refine leave_eq ?_) | (with_reducible refine leave_normal ?_) | (with_reducible refine leave_ret ?_) | (with_reducible refine leave_ne (by decide) ?_) | go_values | go_skip | go_guarded | go_step)
    refine (takeE_r _ _ fargs.length 1 aA cA _ _ (by simp) (by simp) H1.out).mono ?_
    rintro e w1 ⟨rfl, rfl⟩
    dsimp only
    repeat (first | (with_reducible refine then_exit ?_) | (with_reducible refine then_normal ?_) | (with_reducible refine then_ret ?_) | (with_reducible refine leave_eq ?_) | (with_reducible refine leave_normal ?_) | (with_reducible refine leave_ret ?_) | (with_reducible refine leave_ne (by decide) ?_) | go_values | go_skip | go_guarded | go_step)
    go_ret
    exact ⟨rfl, by repeat (first | exact (Below.refl _ _).alloc (Nat.le_refl _) _ | refine Below.setCell ?_ (by simp) _)⟩
  rw [hc1, Bool.true_and] at hr
  have H1 := Lib.hid hc1
  clear hc1
  have HL := Lib.hid hr
  clear hr
  go_enter Try.func31, Try.ntmps31
  repeat (first | (with_reducible refine then_exit ?_) | (with_reducible refine then_normal ?_) | (with_reducible refine then_ret ?_) | (with_reducible refine leave_eq ?_) | (with_reducible refine leave_normal ?_) | (with_reducible refine leave_ret ?_) | (with_reducible refine leave_ne (by decide) ?_) | go_values | go_skip | go_guarded | go_step)
  refine (takeT_r _ _ ftypes.length 2 aT cT _ _ (by simp) (by simp) H0.out).mono ?_
  rintro e w1 ⟨rfl, rfl⟩
  dsimp only
  repeat (first | (with_reducible refine then_exit ?_) | (with_reducible refine then_normal ?_) | (with_reducible refine then_ret ?_) | (with_reducible refine leave_eq ?_) | (with_reducible refine leave_normal ?_) | (with_reducible refine leave_ret ?_) | (with_reducible refine leave_ne (by decide) ?_) | go_values | go_skip | go_guarded | go_step)
  refine (takeE_r _ _ fargs.length 1 aA cA _ _ (by simp) (by simp) H1.out).mono ?_
  rintro e w1 ⟨rfl, rfl⟩
  dsimp only
  repeat (first | (with_reducible refine then_exit ?_) | (with_reducible refine then_normal ?_) | (with_reducible refine then_ret ?_) | (with_reducible refine leave_eq ?_) | (with_reducible refine leave_normal ?_) | (with_reducible refine leave_ret ?_) | (with_reducible refine leave_ne (by decide) ?_) | go_values | go_skip | go_guarded | go_step)
  refine (nothingLeft_r _ _ _ _ _ _ _ _ _ _ _ _ _ _ _ _ _ HL.out).mono ?_
  rintro e w1 ⟨rfl, hb1⟩
  have HB1 := Lib.hid hb1
  clear hb1
  dsimp only
  repeat (first | (with_reducible refine then_exit ?_) | (with_reducible refine then_normal ?_) | (with_reducible refine then_ret ?_) | (with_reducible refine leave_eq ?_) | (with_reducible refine leave_normal ?_) | (with_reducible refine leave_ret ?_) | (with_reducible refine leave_ne (by decide) ?_) | go_values | go_skip | go_guarded | go_step)
  go_ret
  exact ⟨rfl, (by repeat (first | exact (Below.refl _ _).alloc (Nat.le_refl _) _ | refine Below.setCell ?_ (by simp) _) : Below w.heap.size w _).trans (HB1.out.mono (by simp))⟩

set_option maxRecDepth 100000 in
set_option maxHeartbeats 1000000 in
theorem exprMayBe_14 (w : World) (S : Nat → Prop) (_hS : ∀ k, S k → k < w.heap.size) (fs : ByteArray) (fn : Int) (fargs : List Ex) (fnames : List ByteArray) (ftypes : List Ty) (fmems : List Mm) (aA aN aT aM : Option Addr) (cA cN cT cM : Nat) (r : Bool)
    (_hs : fs.size ≤ maxLen) (_hlc : fargs.length ≤ cA) (_hE : ExsO w S fargs aA) (_hnc : fnames.length ≤ cN) (_hncm : cN ≤ maxLen) (_hNm : StrsO w S fnames aN)
    (hr : ((decide (fs.size = 0) || Pl.nameB fs.data.toList) && leftB ⟨#[]⟩ fn fargs.length fnames.length ftypes.length 0) = r) :
    Calls Try.prog 31 #[.agg #[.int .i64 14, .string fs, .int .i64 fn, .slice aA fargs.length cA, .slice aN fnames.length cN, .slice aT ftypes.length cT, .slice aM fmems.length cM]] w fun e w' => e = .returned (.bool r) ∧ Below w.heap.size w w' := by
  rcases Nat.eq_zero_or_pos fs.size with h0 | h0
  · have he := toList_nil fs h0
    rw [← leftB_empty h0] at hr
    simp only [h0, decide_true, Bool.true_or, Bool.true_and] at hr
    have HL := Lib.hid hr
    clear hr h0
    go_enter Try.func31, Try.ntmps31
    repeat (first | (with_reducible refine then_exit ?_) | (with_reducible refine then_normal ?_) | (with_reducible refine then_ret ?_) | (with_reducible refine leave_eq ?_) | (with_reducible refine leave_normal ?_) | (with_reducible refine leave_ret ?_) | (with_reducible refine leave_ne (by decide) ?_) | go_values | go_skip | go_guarded | go_step)
    refine (nothingLeft_r _ _ _ _ _ _ _ _ _ _ _ _ _ _ _ _ _ HL.out).mono ?_
    rintro e w1 ⟨rfl, hb1⟩
    have HB1 := Lib.hid hb1
    clear hb1
    dsimp only
    repeat (first | (with_reducible refine then_exit ?_) | (with_reducible refine then_normal ?_) | (with_reducible refine then_ret ?_) | (with_reducible refine leave_eq ?_) | (with_reducible refine leave_normal ?_) | (with_reducible refine leave_ret ?_) | (with_reducible refine leave_ne (by decide) ?_) | go_values | go_skip | go_guarded | go_step)
    go_ret
    exact ⟨rfl, (by repeat (first | exact (Below.refl _ _).alloc (Nat.le_refl _) _ | refine Below.setCell ?_ (by simp) _) : Below w.heap.size w _).trans (HB1.out.mono (by simp))⟩
  · have he := toList_isEmpty fs h0
    rw [decide_eq_false (by omega), Bool.false_or] at hr
    rcases hc0 : Pl.nameB fs.data.toList with _ | _
    · rw [hc0, Bool.false_and] at hr
      subst hr
      have H0 := Lib.hid hc0
      clear hc0
      go_enter Try.func31, Try.ntmps31
      repeat (first | (with_reducible refine then_exit ?_) | (with_reducible refine then_normal ?_) | (with_reducible refine then_ret ?_) | (with_reducible refine leave_eq ?_) | (with_reducible refine leave_normal ?_) | (with_reducible refine leave_ret ?_) | (with_reducible refine leave_ne (by decide) ?_) | go_values | go_skip | go_guarded | go_step)
      refine (takeName_r _ _ fs _ _ (by simp) (by simp) H0.out _hs).mono ?_
      rintro e w1 ⟨rfl, rfl⟩
      dsimp only
      repeat (first | (with_reducible refine then_exit ?_) | (with_reducible refine then_normal ?_) | (with_reducible refine then_ret ?_) | (with_reducible refine leave_eq ?_) | (with_reducible refine leave_normal ?_) | (with_reducible refine leave_ret ?_) | (with_reducible refine leave_ne (by decide) ?_) | go_values | go_skip | go_guarded | go_step)
      go_ret
      exact ⟨rfl, by repeat (first | exact (Below.refl _ _).alloc (Nat.le_refl _) _ | refine Below.setCell ?_ (by simp) _)⟩
    rw [hc0, Bool.true_and] at hr
    have H0 := Lib.hid hc0
    have HL := Lib.hid hr
    clear hc0 hr
    go_enter Try.func31, Try.ntmps31
    repeat (first | (with_reducible refine then_exit ?_) | (with_reducible refine then_normal ?_) | (with_reducible refine then_ret ?_) | (with_reducible refine leave_eq ?_) | (with_reducible refine leave_normal ?_) | (with_reducible refine leave_ret ?_) | (with_reducible refine leave_ne (by decide) ?_) | go_values | go_skip | go_guarded | go_step)
    refine (takeName_r _ _ fs _ _ (by simp) (by simp) H0.out _hs).mono ?_
    rintro e w1 ⟨rfl, rfl⟩
    dsimp only
    repeat (first | (with_reducible refine then_exit ?_) | (with_reducible refine then_normal ?_) | (with_reducible refine then_ret ?_) | (with_reducible refine leave_eq ?_) | (with_reducible refine leave_normal ?_) | (with_reducible refine leave_ret ?_) | (with_reducible refine leave_ne (by decide) ?_) | go_values | go_skip | go_guarded | go_step)
    refine (nothingLeft_r _ _ _ _ _ _ _ _ _ _ _ _ _ _ _ _ _ HL.out).mono ?_
    rintro e w1 ⟨rfl, hb1⟩
    have HB1 := Lib.hid hb1
    clear hb1
    dsimp only
    repeat (first | (with_reducible refine then_exit ?_) | (with_reducible refine then_normal ?_) | (with_reducible refine then_ret ?_) | (with_reducible refine leave_eq ?_) | (with_reducible refine leave_normal ?_) | (with_reducible refine leave_ret ?_) | (with_reducible refine leave_ne (by decide) ?_) | go_values | go_skip | go_guarded | go_step)
    go_ret
    exact ⟨rfl, (by repeat (first | exact (Below.refl _ _).alloc (Nat.le_refl _) _ | refine Below.setCell ?_ (by simp) _) : Below w.heap.size w _).trans (HB1.out.mono (by simp))⟩

set_option maxRecDepth 100000 in
set_option maxHeartbeats 1000000 in
theorem exprMayBe_else (w : World) (S : Nat → Prop) (_hS : ∀ k, S k → k < w.heap.size) (fs : ByteArray) (fn : Int) (fargs : List Ex) (fnames : List ByteArray) (ftypes : List Ty) (fmems : List Mm) (aA aN aT aM : Option Addr) (cA cN cT cM : Nat) (r : Bool)
    (_hs : fs.size ≤ maxLen) (_hlc : fargs.length ≤ cA) (_hE : ExsO w S fargs aA) (_hnc : fnames.length ≤ cN) (_hncm : cN ≤ maxLen) (_hNm : StrsO w S fnames aN)
    (kk : Int) (k5 : kk ≠ 5) (k3 : kk ≠ 3) (k2 : kk ≠ 2) (k4 : kk ≠ 4) (k9 : kk ≠ 9) (k8 : kk ≠ 8) (k7 : kk ≠ 7) (k10 : kk ≠ 10) (k13 : kk ≠ 13) (k11 : kk ≠ 11) (k12 : kk ≠ 12) (k6 : kk ≠ 6) (k15 : kk ≠ 15) (k16 : kk ≠ 16) (k17 : kk ≠ 17) (k1 : kk ≠ 1) (k18 : kk ≠ 18) (k19 : kk ≠ 19) (k20 : kk ≠ 20) (k14 : kk ≠ 14) (hr : false = r) :
    Calls Try.prog 31 #[.agg #[.int .i64 kk, .string fs, .int .i64 fn, .slice aA fargs.length cA, .slice aN fnames.length cN, .slice aT ftypes.length cT, .slice aM fmems.length cM]] w fun e w' => e = .returned (.bool r) ∧ Below w.heap.size w w' := by
  subst hr
  have b5 : (kk == 5) = false := by rw [beq_eq_false_iff_ne]; exact k5
  have b3 : (kk == 3) = false := by rw [beq_eq_false_iff_ne]; exact k3
  have b2 : (kk == 2) = false := by rw [beq_eq_false_iff_ne]; exact k2
  have b4 : (kk == 4) = false := by rw [beq_eq_false_iff_ne]; exact k4
  have b9 : (kk == 9) = false := by rw [beq_eq_false_iff_ne]; exact k9
  have b8 : (kk == 8) = false := by rw [beq_eq_false_iff_ne]; exact k8
  have b7 : (kk == 7) = false := by rw [beq_eq_false_iff_ne]; exact k7
  have b10 : (kk == 10) = false := by rw [beq_eq_false_iff_ne]; exact k10
  have b13 : (kk == 13) = false := by rw [beq_eq_false_iff_ne]; exact k13
  have b11 : (kk == 11) = false := by rw [beq_eq_false_iff_ne]; exact k11
  have b12 : (kk == 12) = false := by rw [beq_eq_false_iff_ne]; exact k12
  have b6 : (kk == 6) = false := by rw [beq_eq_false_iff_ne]; exact k6
  have b15 : (kk == 15) = false := by rw [beq_eq_false_iff_ne]; exact k15
  have b16 : (kk == 16) = false := by rw [beq_eq_false_iff_ne]; exact k16
  have b17 : (kk == 17) = false := by rw [beq_eq_false_iff_ne]; exact k17
  have b1 : (kk == 1) = false := by rw [beq_eq_false_iff_ne]; exact k1
  have b18 : (kk == 18) = false := by rw [beq_eq_false_iff_ne]; exact k18
  have b19 : (kk == 19) = false := by rw [beq_eq_false_iff_ne]; exact k19
  have b20 : (kk == 20) = false := by rw [beq_eq_false_iff_ne]; exact k20
  have b14 : (kk == 14) = false := by rw [beq_eq_false_iff_ne]; exact k14
  clear k5 k3 k2 k4 k9 k8 k7 k10 k13 k11 k12 k6 k15 k16 k17 k1 k18 k19 k20 k14
  go_enter Try.func31, Try.ntmps31
  repeat (first | (with_reducible refine then_exit ?_) | (with_reducible refine then_normal ?_) | (with_reducible refine then_ret ?_) | (with_reducible refine leave_eq ?_) | (with_reducible refine leave_normal ?_) | (with_reducible refine leave_ret ?_) | (with_reducible refine leave_ne (by decide) ?_) | go_values | go_skip | go_guarded | go_step)
  go_ret
  exact ⟨rfl, by repeat (first | exact (Below.refl _ _).alloc (Nat.le_refl _) _ | refine Below.setCell ?_ (by simp) _)⟩

theorem exprMayBe_r (w : World) (S : Nat → Prop) (e0 : Ex) (ev : Value) (r : Bool) (_hS : ∀ k, S k → k < w.heap.size) (he : ExV w S e0 ev) (hr : exOk e0 = r) :
    Calls Try.prog 31 #[ev] w fun e w' => e = .returned (.bool r) ∧ Below w.heap.size w w' := by
  obtain ⟨kk, fs, fn, fargs, fnames, ftypes, fmems⟩ := e0
  unfold ExV at he
  obtain ⟨aA, cA, aN, cN, aT, cT, aM, cM, rfl, _hs, _hlc, _, _hnc, _hncm, _, _, _, _, _hE, _hNm, _, _⟩ := he
  by_cases k5 : kk = 5
  · subst k5; exact exprMayBe_5 w S _hS fs fn fargs fnames ftypes fmems aA aN aT aM cA cN cT cM r _hs _hlc _hE _hnc _hncm _hNm hr
  by_cases k3 : kk = 3
  · subst k3; exact exprMayBe_3 w S _hS fs fn fargs fnames ftypes fmems aA aN aT aM cA cN cT cM r _hs _hlc _hE _hnc _hncm _hNm hr
  by_cases k2 : kk = 2
  · subst k2; exact exprMayBe_2 w S _hS fs fn fargs fnames ftypes fmems aA aN aT aM cA cN cT cM r _hs _hlc _hE _hnc _hncm _hNm hr
  by_cases k4 : kk = 4
  · subst k4; exact exprMayBe_4 w S _hS fs fn fargs fnames ftypes fmems aA aN aT aM cA cN cT cM r _hs _hlc _hE _hnc _hncm _hNm hr
  by_cases k9 : kk = 9
  · subst k9; exact exprMayBe_9 w S _hS fs fn fargs fnames ftypes fmems aA aN aT aM cA cN cT cM r _hs _hlc _hE _hnc _hncm _hNm hr
  by_cases k8 : kk = 8
  · subst k8; exact exprMayBe_8 w S _hS fs fn fargs fnames ftypes fmems aA aN aT aM cA cN cT cM r _hs _hlc _hE _hnc _hncm _hNm hr
  by_cases k7 : kk = 7
  · subst k7; exact exprMayBe_7 w S _hS fs fn fargs fnames ftypes fmems aA aN aT aM cA cN cT cM r _hs _hlc _hE _hnc _hncm _hNm hr
  by_cases k10 : kk = 10
  · subst k10; exact exprMayBe_10 w S _hS fs fn fargs fnames ftypes fmems aA aN aT aM cA cN cT cM r _hs _hlc _hE _hnc _hncm _hNm hr
  by_cases k13 : kk = 13
  · subst k13; exact exprMayBe_13 w S _hS fs fn fargs fnames ftypes fmems aA aN aT aM cA cN cT cM r _hs _hlc _hE _hnc _hncm _hNm hr
  by_cases k11 : kk = 11
  · subst k11; exact exprMayBe_11 w S _hS fs fn fargs fnames ftypes fmems aA aN aT aM cA cN cT cM r _hs _hlc _hE _hnc _hncm _hNm hr
  by_cases k12 : kk = 12
  · subst k12; exact exprMayBe_12 w S _hS fs fn fargs fnames ftypes fmems aA aN aT aM cA cN cT cM r _hs _hlc _hE _hnc _hncm _hNm hr
  by_cases k6 : kk = 6
  · subst k6; exact exprMayBe_6 w S _hS fs fn fargs fnames ftypes fmems aA aN aT aM cA cN cT cM r _hs _hlc _hE _hnc _hncm _hNm hr
  by_cases k15 : kk = 15
  · subst k15; exact exprMayBe_15 w S _hS fs fn fargs fnames ftypes fmems aA aN aT aM cA cN cT cM r _hs _hlc _hE _hnc _hncm _hNm hr
  by_cases k16 : kk = 16
  · subst k16; exact exprMayBe_16 w S _hS fs fn fargs fnames ftypes fmems aA aN aT aM cA cN cT cM r _hs _hlc _hE _hnc _hncm _hNm hr
  by_cases k17 : kk = 17
  · subst k17; exact exprMayBe_17 w S _hS fs fn fargs fnames ftypes fmems aA aN aT aM cA cN cT cM r _hs _hlc _hE _hnc _hncm _hNm hr
  by_cases k1 : kk = 1
  · subst k1; exact exprMayBe_1 w S _hS fs fn fargs fnames ftypes fmems aA aN aT aM cA cN cT cM r _hs _hlc _hE _hnc _hncm _hNm hr
  by_cases k18 : kk = 18
  · subst k18; exact exprMayBe_18 w S _hS fs fn fargs fnames ftypes fmems aA aN aT aM cA cN cT cM r _hs _hlc _hE _hnc _hncm _hNm hr
  by_cases k19 : kk = 19
  · subst k19; exact exprMayBe_19 w S _hS fs fn fargs fnames ftypes fmems aA aN aT aM cA cN cT cM r _hs _hlc _hE _hnc _hncm _hNm hr
  by_cases k20 : kk = 20
  · subst k20; exact exprMayBe_20 w S _hS fs fn fargs fnames ftypes fmems aA aN aT aM cA cN cT cM r _hs _hlc _hE _hnc _hncm _hNm hr
  by_cases k14 : kk = 14
  · subst k14; exact exprMayBe_14 w S _hS fs fn fargs fnames ftypes fmems aA aN aT aM cA cN cT cM r _hs _hlc _hE _hnc _hncm _hNm hr
  refine exprMayBe_else w S _hS fs fn fargs fnames ftypes fmems aA aN aT aM cA cN cT cM r _hs _hlc _hE _hnc _hncm _hNm kk k5 k3 k2 k4 k9 k8 k7 k10 k13 k11 k12 k6 k15 k16 k17 k1 k18 k19 k20 k14 ?_
  rw [← hr]
  unfold exOk
  simp only [k5, k3, k2, k4, k9, k8, k7, k10, k13, k11, k12, k6, k15, k16, k17, k1, k18, k19, k20, k14, if_false]

end Go.Proofs.Ythgbldkcgfggfaa
