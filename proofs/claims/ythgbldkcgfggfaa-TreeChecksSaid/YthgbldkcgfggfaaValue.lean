/-
  tree.Value: what it answers of any expression that lies in memory.
-/
import Derived.Test.YthgbldkcgfggfaaSize
namespace Go.Proofs.Ythgbldkcgfggfaa
open Go.RowKit

set_option maxRecDepth 100000 in
set_option maxHeartbeats 2000000 in
theorem value_any (w : World) (S : Nat → Prop) (e0 : Ex) (ev : Value) (hS : ∀ k, S k → k < w.heap.size) (he : ExV w S e0 ev) (hN : e0.size ≤ 1000000) :
    Calls Try.prog 18 #[ev] w fun e w' => e = .returned (.bool e0.value) ∧ Below w.heap.size w w' := by
  have HE := Lib.hid he
  obtain ⟨N, hNe⟩ : ∃ N, N = e0.size := ⟨_, rfl⟩
  have HNe := Lib.hid hNe
  rw [← hNe] at hN
  obtain ⟨D, hDe⟩ : ∃ D, D = e0.value := ⟨_, rfl⟩
  have HDe := Lib.hid hDe
  rw [← hDe]
  clear hNe hDe
  obtain ⟨fk, fs, fn, fargs, fnames, ftypes, fmems⟩ := e0
  unfold ExV at he
  obtain ⟨aA, cA, aN, cN, aT, cT, aM, cM, rfl, _⟩ := he
  go_enter Try.func18, Try.ntmps18
  go_wp2_with fail
  refine (startE _ S _ _ (fun k hk => by have := hS k hk; simp; omega) (ExV.keep (fun k hk => ⟨hk, Below.heap_alloc _ _ _ (hS k hk)⟩) _ _ HE.out)).mono ?_
  rintro e w1 ⟨v1, S1, rfl, hS1, hS2, hr1, hb1, ho1⟩
  obtain ⟨A1, c1, rfl⟩ := hr1.form
  obtain ⟨hw, hf, hb⟩ := begun hr1 ((Below.refl _ w).alloc (Nat.le_refl _) _) hb1 ho1
  have HW := Lib.hid hw
  have HF := Lib.hid hf
  have HB := Lib.hid hb
  clear hw hf hb hr1 hb1 ho1 hS1 hS2
  go_wp2
  go_loopg [3, 4, 5] N (fun k p _ _ wr => ∃ (g : Nat) (v : Value) (st : List (List Ex × Int)), p = .pointer (some ⟨g, 0, none⟩) ∧ WalkE wr S1 g v st ∧ Fresh w.heap.size g v ∧ Below w.heap.size w wr ∧ stAll Ex.values st = D ∧ stSize Ex.sizes st ≤ k ∧ k ≤ N ∧ stOk Ex.sizes (2 * N + 1) st)
  case atStart =>
    refine ⟨w1.heap.size, _, [([Ex.mk fk fs fn fargs fnames ftypes fmems], 1)], rfl, HW.out, HF.out, HB.out, ?_, ?_, Nat.le_refl _, ?_⟩
    · rw [HDe.out]; simp [stAll, Ex.values]
    · rw [HNe.out]; simp [stSize, Ex.sizes]
    · intro x hx
      simp at hx
      subst hx
      exact ⟨by simp, by simp, by simp only [Ex.sizes]; rw [HNe.out]; omega⟩
  case round =>
    obtain ⟨g, v, st, rfl, hw, hf, hb, hdeep, hsum, hkN, hok⟩ := hrel
    have HW1 := Lib.hid hw
    have HF1 := Lib.hid hf
    have HB1 := Lib.hid hb
    have HSum := Lib.hid hsum
    have HDeep := Lib.hid hdeep
    have HOk := Lib.hid hok
    clear hw hf hb hsum hok hdeep
    rcases snoc_cases st with rfl | ⟨st, ⟨l, d⟩, rfl⟩
    · go_wp2_with fail
      refine (moreE _ S1 g v [] false rfl HW1.out).mono ?_
      rintro e w2 ⟨rfl, rfl⟩
      go_wp2
      go_ret
      exact ⟨ret_bool (by have := HDeep.out; simpa [stAll] using this), HB1.out⟩
    · go_wp2_with fail
      refine (moreE _ S1 g v _ true (by simp) HW1.out).mono ?_
      rintro e w2 ⟨rfl, rfl⟩
      obtain ⟨e1, r, rfl⟩ := List.exists_cons_of_ne_nil (HOk.out.snoc).2.1
      have hd9 : d ≤ 2000001 := by have := HOk.out.snoc.2.2.2; omega
      obtain ⟨n1, n2, n3⟩ := nextSt_bound HOk.out (by have := HSum.out; omega) hN
      go_wp2_with fail
      refine (takeE _ S1 g v st e1 r d HW1.out).mono ?_
      rintro e w3 ⟨b, o, rfl, hp, v3, hw3, hs3⟩
      have hsz : stSize Ex.sizes (pushL st r d) + e1.size = stSize Ex.sizes (st ++ [(e1 :: r, d)]) := by
        rw [stSize_push _ (by simp [Ex.sizes]), stSize_snoc]; simp only [Ex.sizes]; omega
      have hal : stAll Ex.values (st ++ [(e1 :: r, d)]) = (stAll Ex.values (pushL st r d) && e1.value) := by
        rw [stAll_push _ (by simp [Ex.values]), stAll_snoc]; simp only [Ex.values]; cases stAll Ex.values st <;> cases e1.value <;> cases Ex.values r <;> rfl
      have hok3 : stOk Ex.sizes (2 * N + 1) (pushL st r d) := HOk.out.snoc.1.push (fun _ => ⟨n2, by have := HOk.out.snoc.2.2.2; simp only [Ex.sizes] at this; omega⟩)
      have h1 := Ex.size_eq e1
      have HSz := Lib.hid hsz
      have HAl := Lib.hid hal
      have HOk3 := Lib.hid hok3
      have HE1 := Lib.hid h1
      clear hsz hal hok3 h1
      obtain ⟨A3, c3, rfl, hc3⟩ := hw3.form
      obtain ⟨xA, yA, xN, yN, xT, yT, xM, yM, f0, f1, f2, f3, f4, f5, f6, q0, q1, q2, q3, q4, q5, q6, q7, q8, q9, q10, q11, q12⟩ := hp.fields
      have hb3 : Below w.heap.size w w3 := HB1.out.trans (hs3.below HF1.out HB1.out.size)
      have hf3 := HF1.out.step hs3 HB1.out.size
      have HB3 := Lib.hid hb3
      have HF3 := Lib.hid hf3
      have HW3 := Lib.hid hw3
      have Q9 := Lib.hid q9
      have hq2 : e1.args.length ≤ 9223372036854775807 := by unfold maxLen at q2; omega
      have Q1 := Lib.hid q1
      have Q2 := Lib.hid q2
      clear hb3 hf3 hw3 hs3 hp f1 f2 f4 f5 f6 q0 q1 q2 q3 q4 q5 q6 q7 q8 q9 q10 q11 q12
      rcases hvk : vkind e1.kind e1.args.length with _ | _ | n
      · have hvl := Ex.value_0 e1 hvk
        have hk : e1.kind = 1 ∨ e1.kind = 2 ∨ e1.kind = 3 ∨ e1.kind = 4 ∨ e1.kind = 5 ∨ e1.kind = 6 := by
          unfold vkind at hvk
          by_cases h : e1.kind = 1 ∨ e1.kind = 2 ∨ e1.kind = 3 ∨ e1.kind = 4 ∨ e1.kind = 5 ∨ e1.kind = 6
          · exact h
          · rw [if_neg h] at hvk; split at hvk <;> simp at hvk
        have HV := Lib.hid hvl
        clear hvl hvk
        rcases hk with hk | hk | hk | hk | hk | hk
        all_goals
          rw [hk] at f0
          clear hk
          go_wp2
          go_roundg (gk - 1)
          case measure => have h1 := HSum.out; have h2 := HSz.out; have h3 := HE1.out; omega
          case rel =>
            obtain ⟨hw4, hf4⟩ := HW3.out.again HF3.out HB3.out.size
            refine ⟨w3.heap.size, _, pushL st r d, rfl, hw4, hf4, HB3.out.alloc HB3.out.size _, ?_, ?_, by omega, HOk3.out⟩
            · have := HAl.out
              rw [HV.out, Bool.and_true] at this
              rw [← this, HDeep.out]
            · have h1 := HSum.out; have h2 := HSz.out; have h3 := HE1.out; omega
      · have hvl := Ex.value_1 e1 hvk
        have hk : ∃ n, e1.args.length = n ∧ (e1.kind = 10 ∧ n = 2 ∨ e1.kind = 19 ∧ n = 1) := by
          unfold vkind at hvk
          split at hvk
          · simp at hvk
          · split at hvk
            · exact ⟨_, rfl, by assumption⟩
            · simp at hvk
        have HV := Lib.hid hvl
        clear hvl hvk
        obtain ⟨n, hn, hk⟩ := hk
        have HN := Lib.hid hn
        rw [hn] at f3
        clear hn
        rcases hk with ⟨hk, rfl⟩ | ⟨hk, rfl⟩
        all_goals
          rw [hk] at f0
          clear hk
          go_wp2_with fail
          refine (addE _ S1 g _ _ e1.args _ xA yA (d + 1) HW3.out (by have h1 := HOk3.out.length Ex.sizes_pos; have h2 := HSum.out; have h3 := HSz.out; omega) HN.out.symm (by have := Q1.out; have := HN.out; omega) Q2.out Q9.out).mono ?_
          rintro e w4 ⟨rfl, v4, hw4, hs4⟩
          obtain ⟨A4, c4, rfl, hc4⟩ := hw4.form
          have hb4 : Below w.heap.size w w4 := HB3.out.trans (hs4.below HF3.out HB3.out.size)
          have hf4 := HF3.out.step hs4 HB3.out.size
          have HB4 := Lib.hid hb4
          have HF4 := Lib.hid hf4
          have HW4 := Lib.hid hw4
          clear hb4 hf4 hw4 hs4
          go_wp2
          go_roundg (gk - 1)
          case measure => have h1 := HSum.out; have h2 := HSz.out; have h3 := HE1.out; omega
          case rel =>
            obtain ⟨hw5, hf5⟩ := HW4.out.again HF4.out HB4.out.size
            refine ⟨w4.heap.size, _, pushL (pushL st r d) e1.args (d + 1), rfl, hw5, hf5, HB4.out.alloc HB4.out.size _, ?_, ?_, by omega, ?_⟩
            · have := HAl.out
              rw [HV.out] at this
              rw [stAll_push _ (by simp [Ex.values]), ← this, HDeep.out]
            · rw [stSize_push _ (by simp [Ex.sizes])]; have h1 := HSum.out; have h2 := HSz.out; have h3 := HE1.out; omega
            · refine HOk3.out.push (fun _ => ⟨by omega, ?_⟩)
              have h2 := HOk.out.snoc.2.2.2; have h3 := HE1.out; simp only [Ex.sizes] at h2; omega
      · have hvl := Ex.value_2 e1 (by rw [hvk]; unfold vkind at hvk; split at hvk; omega; split at hvk; omega; omega)
        have hD : false = D := by
          have h1 := HAl.out
          rw [hvl, Bool.and_false] at h1
          have := HDeep.out
          rw [h1] at this
          exact this
        subst hD
        have hk : (∃ n, e1.args.length = n ∧ n ≠ 2 ∧ e1.kind = 10) ∨ (∃ n, e1.args.length = n ∧ n ≠ 1 ∧ e1.kind = 19) ∨ (e1.kind ≠ 1 ∧ e1.kind ≠ 2 ∧ e1.kind ≠ 3 ∧ e1.kind ≠ 4 ∧ e1.kind ≠ 5 ∧ e1.kind ≠ 6 ∧ e1.kind ≠ 10 ∧ e1.kind ≠ 19) := by
          unfold vkind at hvk
          split at hvk
          · omega
          · split at hvk
            · omega
            · rename_i g1 g2
              by_cases k10 : e1.kind = 10
              · exact .inl ⟨_, rfl, fun e => g2 (.inl ⟨k10, e⟩), k10⟩
              · by_cases k19 : e1.kind = 19
                · exact .inr (.inl ⟨_, rfl, fun e => g2 (.inr ⟨k19, e⟩), k19⟩)
                · exact .inr (.inr ⟨by omega, by omega, by omega, by omega, by omega, by omega, k10, k19⟩)
        clear hvk hvl
        rcases hk with ⟨m, hm, hne, hk⟩ | ⟨m, hm, hne, hk⟩ | ⟨k1, k2, k3, k4, k5, k6, k10, k19⟩
        · rw [hm] at f3
          rw [hk] at f0
          have h2 : ((m : Int) != 2) = true := by rw [bne_iff_ne]; omega
          have h3 : ((m : Int) == 2) = false := by rw [beq_eq_false_iff_ne]; omega
          clear hm hk hne
          go_wp2
          go_ret
          exact ⟨rfl, HB3.out⟩
        · rw [hm] at f3
          rw [hk] at f0
          have h2 : ((m : Int) != 1) = true := by rw [bne_iff_ne]; omega
          have h3 : ((m : Int) == 1) = false := by rw [beq_eq_false_iff_ne]; omega
          clear hm hk hne
          go_wp2
          go_ret
          exact ⟨rfl, HB3.out⟩
        · obtain ⟨kk, hkk⟩ : ∃ kk, kk = e1.kind := ⟨_, rfl⟩
          rw [← hkk] at f0 k1 k2 k3 k4 k5 k6 k10 k19
          clear hkk
          have b1 : (kk == 1) = false := by rw [beq_eq_false_iff_ne]; exact k1
          have b2 : (kk == 2) = false := by rw [beq_eq_false_iff_ne]; exact k2
          have b3 : (kk == 3) = false := by rw [beq_eq_false_iff_ne]; exact k3
          have b4 : (kk == 4) = false := by rw [beq_eq_false_iff_ne]; exact k4
          have b5 : (kk == 5) = false := by rw [beq_eq_false_iff_ne]; exact k5
          have b6 : (kk == 6) = false := by rw [beq_eq_false_iff_ne]; exact k6
          have b10 : (kk == 10) = false := by rw [beq_eq_false_iff_ne]; exact k10
          have b19 : (kk == 19) = false := by rw [beq_eq_false_iff_ne]; exact k19
          clear k1 k2 k3 k4 k5 k6 k10 k19
          go_wp2
          go_ret
          exact ⟨rfl, HB3.out⟩

end Go.Proofs.Ythgbldkcgfggfaa
