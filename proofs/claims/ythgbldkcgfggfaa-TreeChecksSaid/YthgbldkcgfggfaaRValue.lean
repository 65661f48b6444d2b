/-
  trefoilref02.Value.
-/
import Derived.Test.YthgbldkcgfggfaaRDeep
namespace Go.Proofs.Ythgbldkcgfggfaa
open Go.RowKit

theorem Ex.values_two (a b : Ex) : Ex.values [a, b] = (a.value && b.value) := by simp [Ex.values]
theorem Ex.values_one (a : Ex) : Ex.values [a] = a.value := by simp [Ex.values]

set_option maxRecDepth 100000 in
set_option maxHeartbeats 2000000 in
theorem rvalue_any : ∀ (f : Nat) (e0 : Ex) (w : World) (S : Nat → Prop) (ev : Value) (r : Bool), e0.size ≤ f → (∀ k, S k → k < w.heap.size) → ExV w S e0 ev → e0.value = r →
    Calls Try.prog 19 #[ev] w fun e w' => e = .returned (.bool r) ∧ Below w.heap.size w w' := by
  intro f
  induction f with
  | zero => intro e0 w S ev r h; cases e0; simp [Ex.size] at h
  | succ f ih =>
    intro e0 w S ev r hf hS he hr
    have IH := Lib.hid ih
    clear ih
    obtain ⟨fk, fs, fn, fargs, fnames, ftypes, fmems⟩ := e0
    have hsz : Ex.sizes fargs ≤ f := by simp only [Ex.size] at hf; omega
    have hv0 := Ex.value_0 (.mk fk fs fn fargs fnames ftypes fmems)
    have hv1 := Ex.value_1 (.mk fk fs fn fargs fnames ftypes fmems)
    have hv2 := Ex.value_2 (.mk fk fs fn fargs fnames ftypes fmems)
    simp only [Ex.kind, Ex.args] at hv0 hv1 hv2
    rw [hr] at hv0 hv1 hv2
    unfold ExV at he
    obtain ⟨aA, cA, aN, cN, aT, cT, aM, cM, rfl, hs, hA, hA9, hN1, hN9, hT, hT9, hM, hM9, oA, oN, oT, oM⟩ := he
    have HOA := Lib.hid oA
    clear oA oN oT oM hf hr
    by_cases h0 : fk = 1 ∨ fk = 2 ∨ fk = 3 ∨ fk = 4 ∨ fk = 5 ∨ fk = 6
    · have hrr : r = true := hv0 (by simp [vkind, h0])
      subst hrr
      clear hv0 hv1 hv2
      rcases h0 with rfl | rfl | rfl | rfl | rfl | rfl <;>
      · go_enter Try.func19, Try.ntmps19
        go_wp2
        go_ret
        exact ⟨rfl, (Below.refl _ _).alloc (Nat.le_refl _) _⟩
    · by_cases h10 : fk = 10
      · subst h10
        by_cases hn : fargs.length = 2
        · obtain ⟨a, b, rfl⟩ : ∃ a b, fargs = [a, b] := by
            match fargs, hn with
            | [a, b], _ => exact ⟨a, b, rfl⟩
          have hr : r = (a.value && b.value) := by rw [hv1 (by simp [vkind]), Ex.values_two]
          clear hv0 hv1 hv2 hn
          simp only [Ex.sizes] at hsz
          have hsa : a.size ≤ f := by omega
          have hsb : b.size ≤ f := by omega
          simp only [List.length_cons, List.length_nil, Nat.zero_add, Nat.reduceAdd] at hA
          obtain ⟨w1, hw1⟩ : ∃ w1, w1 = w.alloc (.cells #[.int .i64 10, .string fs, .int .i64 fn, .slice aA 2 cA, .slice aN fnames.length cN, .slice aT ftypes.length cT, .slice aM fmems.length cM] 31) := ⟨_, rfl⟩
          have hsz1 : w1.heap.size = w.heap.size + 1 := by rw [hw1]; simp
          have hbw : ∀ W, Below w1.heap.size w1 W → Below w.heap.size w W := fun W hW => ((Below.refl _ w).alloc (Nat.le_refl _) _).trans (hw1 ▸ hW.mono (by omega))
          have hrow : ∀ W, Below w1.heap.size w1 W → ∀ j, W.cell? ⟨w.heap.size, j, none⟩ = (#[.int .i64 10, .string fs, .int .i64 fn, .slice aA 2 cA, .slice aN fnames.length cN, .slice aT ftypes.length cT, .slice aM fmems.length cM] : Array Value)[j]? := fun W hW j =>
            cell_of_row W _ j _ _ _ ((hW.block _ (by omega)).trans (by rw [hw1]; exact heap_alloc_new w _))
          have HCall := Lib.hid (fun (x : Ex) (xv : Value) (q : Bool) (hx : x.size ≤ f) (hq : x.value = q) W (hW : Below w1.heap.size w1 W) (hv : ExV W S x xv) => ((IH.out x W S xv q hx (fun k hk => Nat.lt_of_lt_of_le (hS k hk) (hbw W hW).size) hv hq).mono fun _ _ h => ⟨h.1, hW.trans (h.2.mono hW.size)⟩ : Calls Try.prog 19 #[xv] W fun e w' => e = .returned (.bool q) ∧ Below w1.heap.size w1 w'))
          have HRow := Lib.hid hrow
          have HBw := Lib.hid hbw
          have HKeep := Lib.hid (fun W (hW : Below w1.heap.size w1 W) => (ExsO.keep (fun k hk => ⟨hk, (hbw W hW).block k (hS k hk)⟩) _ _ HOA.out : ExsO W S _ aA))
          clear hsz1 hbw hrow
          obtain ⟨b1, o1, rfl, p1⟩ := ExsO.get _ _ (HKeep.out w1 (Below.refl _ _)) 0 (by simp)
          obtain ⟨x1, x2, x3, x4, x5, x6, x7, x8, f0, f1, f2, f3, f4, f5, f6, hv, _⟩ := p1.val
          simp only [List.getElem_cons_zero, Nat.zero_mul, Nat.add_zero] at f0 f1 f2 f3 f4 f5 f6 hv
          rw [hw1] at f0 f1 f2 f3 f4 f5 f6
          have HV := Lib.hid hv
          clear p1 hv
          rcases ha : a.value with _ | _
          · rw [ha, Bool.false_and] at hr
            subst hr
            have HA := Lib.hid ha
            clear ha
            go_enter Try.func19, Try.ntmps19
            go_wp2_with fail
            rw [← hw1]
            refine (HCall.out a _ false hsa HA.out w1 (Below.refl _ _) HV.out).mono ?_
            rintro e w2 ⟨rfl, hb2⟩
            have HB2 := Lib.hid hb2
            clear hw1 f0 f1 f2 f3 f4 f5 f6
            clear hb2
            go_wp2
            go_ret
            exact ⟨rfl, HBw.out _ HB2.out⟩
          · rw [ha, Bool.true_and] at hr
            have HA := Lib.hid ha
            have HR := Lib.hid hr.symm
            clear ha hr
            go_enter Try.func19, Try.ntmps19
            go_wp2_with fail
            rw [← hw1]
            refine (HCall.out a _ true hsa HA.out w1 (Below.refl _ _) HV.out).mono ?_
            rintro e w2 ⟨rfl, hb2⟩
            have HB2 := Lib.hid hb2
            clear hw1 f0 f1 f2 f3 f4 f5 f6
            obtain ⟨b2, o2, e2, p2⟩ := ExsO.get _ _ (HKeep.out w2 hb2) 1 (by simp)
            simp only [Option.some.injEq, Addr.mk.injEq, and_true] at e2
            obtain ⟨rfl, rfl⟩ := e2
            obtain ⟨y1, y2, y3, y4, y5, y6, y7, y8, g0, g1, g2, g3, g4, g5, g6, hu, _⟩ := p2.val
            simp only [List.getElem_cons_zero, List.getElem_cons_succ, Nat.one_mul] at g0 g1 g2 g3 g4 g5 g6 hu
            have c3 := HRow.out w2 hb2 3
            have HU := Lib.hid hu
            clear p2 hu hb2
            go_wp2_with fail
            refine (HCall.out b _ r hsb HR.out w2 HB2.out HU.out).mono ?_
            rintro e w3 ⟨rfl, hb3⟩
            go_wp2
            go_ret
            exact ⟨rfl, HBw.out _ hb3⟩
        · have hrr : r = false := hv2 (by simp [vkind, hn])
          subst hrr
          have hi : ((fargs.length : Int) == 2) = false := by rw [beq_eq_false_iff_ne]; omega
          clear hv0 hv1 hv2 hn
          go_enter Try.func19, Try.ntmps19
          go_wp2
          go_ret
          exact ⟨rfl, (Below.refl _ _).alloc (Nat.le_refl _) _⟩
      by_cases h19 : fk = 19
      · subst h19
        by_cases hn : fargs.length = 1
        · obtain ⟨a, rfl⟩ : ∃ a, fargs = [a] := by
            match fargs, hn with
            | [a], _ => exact ⟨a, rfl⟩
          have hr : r = a.value := by rw [hv1 (by simp [vkind]), Ex.values_one]
          clear hv0 hv1 hv2 hn
          simp only [Ex.sizes] at hsz
          have hsa : a.size ≤ f := by omega
          simp only [List.length_cons, List.length_nil, Nat.zero_add] at hA
          have HA := Lib.hid hr.symm
          clear hr
          obtain ⟨w1, hw1⟩ : ∃ w1, w1 = w.alloc (.cells #[.int .i64 19, .string fs, .int .i64 fn, .slice aA 1 cA, .slice aN fnames.length cN, .slice aT ftypes.length cT, .slice aM fmems.length cM] 31) := ⟨_, rfl⟩
          have hsz1 : w1.heap.size = w.heap.size + 1 := by rw [hw1]; simp
          have hbw : ∀ W, Below w1.heap.size w1 W → Below w.heap.size w W := fun W hW => ((Below.refl _ w).alloc (Nat.le_refl _) _).trans (hw1 ▸ hW.mono (by omega))
          have hrow : ∀ W, Below w1.heap.size w1 W → ∀ j, W.cell? ⟨w.heap.size, j, none⟩ = (#[.int .i64 19, .string fs, .int .i64 fn, .slice aA 1 cA, .slice aN fnames.length cN, .slice aT ftypes.length cT, .slice aM fmems.length cM] : Array Value)[j]? := fun W hW j =>
            cell_of_row W _ j _ _ _ ((hW.block _ (by omega)).trans (by rw [hw1]; exact heap_alloc_new w _))
          have HCall := Lib.hid (fun (x : Ex) (xv : Value) (q : Bool) (hx : x.size ≤ f) (hq : x.value = q) W (hW : Below w1.heap.size w1 W) (hv : ExV W S x xv) => ((IH.out x W S xv q hx (fun k hk => Nat.lt_of_lt_of_le (hS k hk) (hbw W hW).size) hv hq).mono fun _ _ h => ⟨h.1, hW.trans (h.2.mono hW.size)⟩ : Calls Try.prog 19 #[xv] W fun e w' => e = .returned (.bool q) ∧ Below w1.heap.size w1 w'))
          have HRow := Lib.hid hrow
          have HBw := Lib.hid hbw
          have HKeep := Lib.hid (fun W (hW : Below w1.heap.size w1 W) => (ExsO.keep (fun k hk => ⟨hk, (hbw W hW).block k (hS k hk)⟩) _ _ HOA.out : ExsO W S _ aA))
          clear hsz1 hbw hrow
          obtain ⟨b1, o1, rfl, p1⟩ := ExsO.get _ _ (HKeep.out w1 (Below.refl _ _)) 0 (by simp)
          obtain ⟨x1, x2, x3, x4, x5, x6, x7, x8, f0, f1, f2, f3, f4, f5, f6, hv, _⟩ := p1.val
          simp only [List.getElem_cons_zero, Nat.zero_mul, Nat.add_zero] at f0 f1 f2 f3 f4 f5 f6 hv
          rw [hw1] at f0 f1 f2 f3 f4 f5 f6
          have HV := Lib.hid hv
          clear p1 hv
          go_enter Try.func19, Try.ntmps19
          go_wp2_with fail
          rw [← hw1]
          refine (HCall.out a _ r hsa HA.out w1 (Below.refl _ _) HV.out).mono ?_
          rintro e w2 ⟨rfl, hb2⟩
          have HB2 := Lib.hid hb2
          clear hw1 f0 f1 f2 f3 f4 f5 f6
          clear hb2
          go_wp2
          go_ret
          exact ⟨rfl, HBw.out _ HB2.out⟩
        · have hrr : r = false := hv2 (by simp [vkind, hn])
          subst hrr
          have hi : ((fargs.length : Int) == 1) = false := by rw [beq_eq_false_iff_ne]; omega
          clear hv0 hv1 hv2 hn
          go_enter Try.func19, Try.ntmps19
          go_wp2
          go_ret
          exact ⟨rfl, (Below.refl _ _).alloc (Nat.le_refl _) _⟩
      · have hrr : r = false := hv2 (by simp only [vkind, h0, h10, h19, if_false, false_and, or_self])
        subst hrr
        simp only [not_or] at h0
        obtain ⟨n1, n2, n3, n4, n5, n6⟩ := h0
        clear hv0 hv1 hv2
        go_enter Try.func19, Try.ntmps19
        go_wp2
        all_goals go_ret
        all_goals exact ⟨rfl, (Below.refl _ _).alloc (Nat.le_refl _) _⟩
end Go.Proofs.Ythgbldkcgfggfaa
