/-
  trefoilref02.may. (Made by gen_rmay.py's lists.)
-/
import Derived.Test.YthgbldkcgfggfaaRMay1
import Derived.Test.YthgbldkcgfggfaaRMay2
import Derived.Test.YthgbldkcgfggfaaRMay3
import Derived.Test.YthgbldkcgfggfaaRMay4
namespace Go.Proofs.Ythgbldkcgfggfaa
open Go.RowKit

set_option maxRecDepth 100000 in
set_option maxHeartbeats 1000000 in
theorem rmay_any : ∀ (f : Nat) (e0 : Ex) (w : World) (S : Nat → Prop) (ev : Value) (r : Bool), e0.size ≤ f → (∀ k, S k → k < w.heap.size) → ExV w S e0 ev → e0.all okNode = r →
      Calls Try.prog 35 #[ev] w fun e w' => e = .returned (.bool r) ∧ Below w.heap.size w w' := by
  intro f
  induction f with
  | zero => intro e0 w S ev r h; cases e0; simp [Ex.size] at h
  | succ f ih =>
    intro e0 w S ev r hf hS he hr
    obtain ⟨kk, fs, fn, fargs, fnames, ftypes, fmems⟩ := e0
    have hsum : Ex.sizes fargs + Mm.sizes fmems ≤ f := by simp only [Ex.size] at hf; omega
    rw [Ex.all_mo] at hr
    simp only [Ex.args, Ex.mems] at hr
    obtain ⟨q, hq⟩ : ∃ q, exOk (.mk kk fs fn fargs fnames ftypes fmems) = q := ⟨_, rfl⟩
    rw [hq] at hr
    unfold ExV at he
    obtain ⟨aA, cA, aN, cN, aT, cT, aM, cM, rfl, hs, hA, hA9, hN1, hN9, hT, hT9, hM, hM9, oA, oN, oT, oM⟩ := he
    clear oT
    by_cases k5 : kk = 5
    · subst k5; exact rmay_5 f ih w S hS fs fn fargs fnames ftypes fmems aA aN aT aM cA cN cT cM r q _ hs hA hA9 hN1 hN9 hT hT9 hM hM9 oA oN oM hsum rfl hq hr
    by_cases k3 : kk = 3
    · subst k3; exact rmay_3 f ih w S hS fs fn fargs fnames ftypes fmems aA aN aT aM cA cN cT cM r q _ hs hA hA9 hN1 hN9 hT hT9 hM hM9 oA oN oM hsum rfl hq hr
    by_cases k2 : kk = 2
    · subst k2; exact rmay_2 f ih w S hS fs fn fargs fnames ftypes fmems aA aN aT aM cA cN cT cM r q _ hs hA hA9 hN1 hN9 hT hT9 hM hM9 oA oN oM hsum rfl hq hr
    by_cases k4 : kk = 4
    · subst k4; exact rmay_4 f ih w S hS fs fn fargs fnames ftypes fmems aA aN aT aM cA cN cT cM r q _ hs hA hA9 hN1 hN9 hT hT9 hM hM9 oA oN oM hsum rfl hq hr
    by_cases k9 : kk = 9
    · subst k9; exact rmay_9 f ih w S hS fs fn fargs fnames ftypes fmems aA aN aT aM cA cN cT cM r q _ hs hA hA9 hN1 hN9 hT hT9 hM hM9 oA oN oM hsum rfl hq hr
    by_cases k8 : kk = 8
    · subst k8; exact rmay_8 f ih w S hS fs fn fargs fnames ftypes fmems aA aN aT aM cA cN cT cM r q _ hs hA hA9 hN1 hN9 hT hT9 hM hM9 oA oN oM hsum rfl hq hr
    by_cases k7 : kk = 7
    · subst k7; exact rmay_7 f ih w S hS fs fn fargs fnames ftypes fmems aA aN aT aM cA cN cT cM r q _ hs hA hA9 hN1 hN9 hT hT9 hM hM9 oA oN oM hsum rfl hq hr
    by_cases k10 : kk = 10
    · subst k10; exact rmay_10 f ih w S hS fs fn fargs fnames ftypes fmems aA aN aT aM cA cN cT cM r q _ hs hA hA9 hN1 hN9 hT hT9 hM hM9 oA oN oM hsum rfl hq hr
    by_cases k13 : kk = 13
    · subst k13; exact rmay_13 f ih w S hS fs fn fargs fnames ftypes fmems aA aN aT aM cA cN cT cM r q _ hs hA hA9 hN1 hN9 hT hT9 hM hM9 oA oN oM hsum rfl hq hr
    by_cases k11 : kk = 11
    · subst k11; exact rmay_11 f ih w S hS fs fn fargs fnames ftypes fmems aA aN aT aM cA cN cT cM r q _ hs hA hA9 hN1 hN9 hT hT9 hM hM9 oA oN oM hsum rfl hq hr
    by_cases k12 : kk = 12
    · subst k12; exact rmay_12 f ih w S hS fs fn fargs fnames ftypes fmems aA aN aT aM cA cN cT cM r q _ hs hA hA9 hN1 hN9 hT hT9 hM hM9 oA oN oM hsum rfl hq hr
    by_cases k6 : kk = 6
    · subst k6; exact rmay_6 f ih w S hS fs fn fargs fnames ftypes fmems aA aN aT aM cA cN cT cM r q _ hs hA hA9 hN1 hN9 hT hT9 hM hM9 oA oN oM hsum rfl hq hr
    by_cases k15 : kk = 15
    · subst k15; exact rmay_15 f ih w S hS fs fn fargs fnames ftypes fmems aA aN aT aM cA cN cT cM r q _ hs hA hA9 hN1 hN9 hT hT9 hM hM9 oA oN oM hsum rfl hq hr
    by_cases k16 : kk = 16
    · subst k16; exact rmay_16 f ih w S hS fs fn fargs fnames ftypes fmems aA aN aT aM cA cN cT cM r q _ hs hA hA9 hN1 hN9 hT hT9 hM hM9 oA oN oM hsum rfl hq hr
    by_cases k17 : kk = 17
    · subst k17; exact rmay_17 f ih w S hS fs fn fargs fnames ftypes fmems aA aN aT aM cA cN cT cM r q _ hs hA hA9 hN1 hN9 hT hT9 hM hM9 oA oN oM hsum rfl hq hr
    by_cases k1 : kk = 1
    · subst k1; exact rmay_1 f ih w S hS fs fn fargs fnames ftypes fmems aA aN aT aM cA cN cT cM r q _ hs hA hA9 hN1 hN9 hT hT9 hM hM9 oA oN oM hsum rfl hq hr
    by_cases k18 : kk = 18
    · subst k18; exact rmay_18 f ih w S hS fs fn fargs fnames ftypes fmems aA aN aT aM cA cN cT cM r q _ hs hA hA9 hN1 hN9 hT hT9 hM hM9 oA oN oM hsum rfl hq hr
    by_cases k19 : kk = 19
    · subst k19; exact rmay_19 f ih w S hS fs fn fargs fnames ftypes fmems aA aN aT aM cA cN cT cM r q _ hs hA hA9 hN1 hN9 hT hT9 hM hM9 oA oN oM hsum rfl hq hr
    by_cases k20 : kk = 20
    · subst k20; exact rmay_20 f ih w S hS fs fn fargs fnames ftypes fmems aA aN aT aM cA cN cT cM r q _ hs hA hA9 hN1 hN9 hT hT9 hM hM9 oA oN oM hsum rfl hq hr
    by_cases k14 : kk = 14
    · subst k14; exact rmay_14 f ih w S hS fs fn fargs fnames ftypes fmems aA aN aT aM cA cN cT cM r q _ hs hA hA9 hN1 hN9 hT hT9 hM hM9 oA oN oM hsum rfl hq hr
    · exact rmay_else f ih kk k1 k2 k3 k4 k5 k6 k7 k8 k9 k10 k11 k12 k13 k14 k15 k16 k17 k18 k19 k20 w S hS fs fn fargs fnames ftypes fmems aA aN aT aM cA cN cT cM r q _ hs hA hA9 hN1 hN9 hT hT9 hM hM9 oA oN oM hsum rfl (by rw [← hq]; simp [exOk, k1, k2, k3, k4, k5, k6, k7, k8, k9, k10, k11, k12, k13, k14, k15, k16, k17, k18, k19, k20]) hr

end Go.Proofs.Ythgbldkcgfggfaa
