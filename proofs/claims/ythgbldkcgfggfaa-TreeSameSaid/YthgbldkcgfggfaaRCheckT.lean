/-
  trefoilref02.CheckType.
-/
import Derived.Test.YthgbldkcgfggfaaRMayT
namespace Go.Proofs.Ythgbldkcgfggfaa
open Go.RowKit

set_option maxRecDepth 100000 in
set_option maxHeartbeats 2000000 in
theorem rcheckT_any (t : Ty) (w : World) (S : Nat → Prop) (v : Value) (hf : t.size ≤ 1000000) (hS : ∀ k, S k → k < w.heap.size) (ht : TyV w S t v) :
    Calls Try.prog 26 #[v] w fun e w' => e = .returned (.int .i64 (if t.all tyOk = false then 2 else if 200 < t.deep then 4 else 0)) ∧ Below w.heap.size w w' := by
  obtain ⟨q, hq⟩ : ∃ q, t.all tyOk = q := ⟨_, rfl⟩
  obtain ⟨d, hd⟩ : ∃ d, t.deep = d := ⟨_, rfl⟩
  have hle := Ty.deep_le t
  have hd9 : d ≤ 1000000 := by omega
  have hv : ∃ k s aA nA cA aL nL cL op, v = .agg #[.int .i64 k, .string s, .slice aA nA cA, .slice aL nL cL, .bool op] := by
    cases t
    unfold TyV at ht
    obtain ⟨_, _, _, _, e, _⟩ := ht
    exact ⟨_, _, _, _, _, _, _, _, _, e⟩
  obtain ⟨fk, fs, aA, nA, cA, aL, nL, cL, fop, rfl⟩ := hv
  obtain ⟨w1, hw1⟩ : ∃ w1, w1 = w.alloc (.cells #[.int .i64 fk, .string fs, .slice aA nA cA, .slice aL nL cL, .bool fop] 42) := ⟨_, rfl⟩
  have hsz1 : w1.heap.size = w.heap.size + 1 := by rw [hw1]; simp
  have hbw : ∀ W, Below w1.heap.size w1 W → Below w.heap.size w W := fun W hW => ((Below.refl _ w).alloc (Nat.le_refl _) _).trans (hw1 ▸ hW.mono (by omega))
  have hrow : ∀ W, Below w1.heap.size w1 W → ∀ j, W.cell? ⟨w.heap.size, j, none⟩ = (#[.int .i64 fk, .string fs, .slice aA nA cA, .slice aL nL cL, .bool fop] : Array Value)[j]? := fun W hW j =>
    cell_of_row W _ j _ _ _ ((hW.block _ (by omega)).trans (by rw [hw1]; exact heap_alloc_new w _))
  have H1 : Hid (∀ W, Below w1.heap.size w1 W → Calls Try.prog 37 #[.agg #[.int .i64 fk, .string fs, .slice aA nA cA, .slice aL nL cL, .bool fop]] W fun e w' => e = .returned (.bool q) ∧ Below w1.heap.size w1 w') := Lib.hid fun W hW =>
    (rmayT_any t.size t W S _ q (Nat.le_refl _) (fun k hk => Nat.lt_of_lt_of_le (hS k hk) (hbw W hW).size) (TyV.keep (fun k hk => ⟨hk, (hbw W hW).block k (hS k hk)⟩) _ _ ht) hq).mono fun _ _ h => ⟨h.1, hW.trans (h.2.mono hW.size)⟩
  have H2 : Hid (∀ W, Below w1.heap.size w1 W → Calls Try.prog 38 #[.agg #[.int .i64 fk, .string fs, .slice aA nA cA, .slice aL nL cL, .bool fop]] W fun e w' => e = .returned (.int .i64 d) ∧ Below w1.heap.size w1 w') := Lib.hid fun W hW => by
    rw [← hd]
    exact (rdeepT_any 1000000 t W S _ hf (Nat.le_refl _) (fun k hk => Nat.lt_of_lt_of_le (hS k hk) (hbw W hW).size) (TyV.keep (fun k hk => ⟨hk, (hbw W hW).block k (hS k hk)⟩) _ _ ht)).mono fun _ _ h => ⟨h.1, hW.trans (h.2.mono hW.size)⟩
  have HBw := Lib.hid hbw
  have HRow := Lib.hid hrow
  rw [hq, hd]
  clear hq hd hle ht hf hbw hrow hsz1
  cases q with
  | false =>
    go_enter Try.func26, Try.ntmps26
    go_wp2_with fail
    rw [← hw1]
    clear hw1
    refine (H1.out _ (Below.refl _ _)).mono ?_
    rintro e w2 ⟨rfl, hb2⟩
    have HB2 := Lib.hid hb2
    clear hb2
    go_wp2
    go_ret
    exact ⟨rfl, HBw.out _ HB2.out⟩
  | true =>
    by_cases h : 200 < d
    · have h' : (200 : Int) < d := by omega
      go_enter Try.func26, Try.ntmps26
      go_wp2_with fail
      rw [← hw1]
      clear hw1
      refine (H1.out _ (Below.refl _ _)).mono ?_
      rintro e w2 ⟨rfl, hb2⟩
      obtain ⟨c0, c1, c2, c3, c4⟩ := (⟨HRow.out w2 hb2 0, HRow.out w2 hb2 1, HRow.out w2 hb2 2, HRow.out w2 hb2 3, HRow.out w2 hb2 4⟩ : _ ∧ _ ∧ _ ∧ _ ∧ _)
      have HB2 := Lib.hid hb2
      clear hb2
      go_wp2_with (go_at_call 38; with_reducible refine (H2.out _ HB2.out).mono ?_; rintro e w3 ⟨rfl, hb3⟩; have HB3 := Lib.hid hb3; clear hb3)
      go_ret
      exact ⟨by simp, HBw.out _ HB3.out⟩
    · have h' : ¬ (200 : Int) < d := by omega
      go_enter Try.func26, Try.ntmps26
      go_wp2_with fail
      rw [← hw1]
      clear hw1
      refine (H1.out _ (Below.refl _ _)).mono ?_
      rintro e w2 ⟨rfl, hb2⟩
      obtain ⟨c0, c1, c2, c3, c4⟩ := (⟨HRow.out w2 hb2 0, HRow.out w2 hb2 1, HRow.out w2 hb2 2, HRow.out w2 hb2 3, HRow.out w2 hb2 4⟩ : _ ∧ _ ∧ _ ∧ _ ∧ _)
      have HB2 := Lib.hid hb2
      clear hb2
      go_wp2_with (go_at_call 38; with_reducible refine (H2.out _ HB2.out).mono ?_; rintro e w3 ⟨rfl, hb3⟩; have HB3 := Lib.hid hb3; clear hb3)
      go_ret
      exact ⟨by simp, HBw.out _ HB3.out⟩
end Go.Proofs.Ythgbldkcgfggfaa
