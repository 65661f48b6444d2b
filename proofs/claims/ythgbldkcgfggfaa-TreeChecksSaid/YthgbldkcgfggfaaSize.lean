/-
  tree.Size and tree.Deep: what they answer of any expression that lies in memory.
-/
import Derived.Test.YthgbldkcgfggfaaNext
import Derived.Test.YthgbldkcgfggfaaSpec
import Derived.Test.YthgbldkcgfggfaaByte
import Derived.Deep.LoopGhost
namespace Go.Proofs.Ythgbldkcgfggfaa
open Go.RowKit

/-- All that a walk owns was made from block B on. -/
def Fresh (B g : Nat) (v : Value) : Prop := B ≤ g ∧ ∀ k, v.ownBlock = some k → B ≤ k
theorem Step.below {w w' : World} {B g : Nat} {v v' : Value} (h : Step w w' g v v') (hf : Fresh B g v) (hB : B ≤ w.heap.size) : Below B w w' :=
  h.keeps.below hB (fun i hi e => by rcases e with e | e; have := hf.1; omega; have := hf.2 i e; omega)
theorem Fresh.step {w w' : World} {B g : Nat} {v v' : Value} (hf : Fresh B g v) (h : Step w w' g v v') (hB : B ≤ w.heap.size) : Fresh B g v' := by
  refine ⟨hf.1, fun k hk => ?_⟩
  rcases h.moves with m | ⟨j, m, hj⟩
  · exact hf.2 k (by rw [← m, hk])
  · rw [hk] at m; injection m with m; omega

theorem Fresh.mono {B B' g : Nat} {v : Value} (hf : Fresh B g v) (h : B' ≤ B) : Fresh B' g v := ⟨by have := hf.1; omega, fun k hk => by have := hf.2 k hk; omega⟩

/-- What stands behind the start of a walk and its variable. -/
theorem begun {w w0 w1 : World} {S1 : Nat → Prop} {v1 : Value} {st : List (List Ex × Int)} (hr : RowE w1 S1 v1 st) (h0 : Below w.heap.size w w0) (hb : Below w0.heap.size w0 w1) (ho : ∀ k, v1.ownBlock = some k → w0.heap.size ≤ k) :
    WalkE (w1.alloc (.cells #[v1] 61)) S1 w1.heap.size v1 st ∧ Fresh w.heap.size w1.heap.size v1 ∧ Below w.heap.size w (w1.alloc (.cells #[v1] 61)) := by
  have h01 : Below w.heap.size w w1 := h0.trans (hb.mono h0.size)
  exact ⟨hr.boxed, ⟨h01.size, fun k hk => Nat.le_trans h0.size (ho k hk)⟩, h01.alloc h01.size _⟩

/-- A walk's variable copied for the next round. -/
theorem WalkE.again {w : World} {S : Nat → Prop} {g B : Nat} {v : Value} {st : List (List Ex × Int)} (h : WalkE w S g v st) (hf : Fresh B g v) (hB : B ≤ w.heap.size) :
    WalkE (w.alloc (.cells #[v] 61)) S w.heap.size v st ∧ Fresh B w.heap.size v := ⟨h.row.boxed, hB, hf.2⟩

theorem WalkE.form {w : World} {S : Nat → Prop} {g : Nat} {v : Value} {st : List (List Ex × Int)} (h : WalkE w S g v st) : ∃ A c, v = .slice A st.length c ∧ w.cell? ⟨g, 0, none⟩ = some v := by
  obtain ⟨xs, hx, _⟩ := h.raw
  obtain ⟨A, c, hv, _⟩ := own_form hx.own
  exact ⟨A, c, hv, hx.box.cell⟩

theorem RowE.form {w : World} {S : Nat → Prop} {v : Value} {st : List (List Ex × Int)} (h : RowE w S v st) : ∃ A c, v = .slice A st.length c := by
  obtain ⟨xs, hx, _⟩ := h.raw
  obtain ⟨A, c, hv, _⟩ := own_form hx
  exact ⟨A, c, hv⟩

theorem snoc_cases {α : Type} (l : List α) : l = [] ∨ ∃ r x, l = r ++ [x] := by
  rcases List.eq_nil_or_concat l with h | ⟨r, x, h⟩
  · exact .inl h
  · exact .inr ⟨r, x, by simpa using h⟩

/-- The levels behind one step of a walk over expressions. -/
def nextSt (st : List (List Ex × Int)) (l : List Ex) (d : Int) (e : Ex) : List (List Ex × Int) := pushMs (pushL (pushL st l d) e.args (d + 1)) (d + 2) e.mems

theorem nextSt_size (st : List (List Ex × Int)) (l : List Ex) (d : Int) (e : Ex) : 1 + e.mems.length + stSize Ex.sizes (nextSt st l d e) = stSize Ex.sizes (st ++ [(e :: l, d)]) := by
  have h := pushMs_size (pushL (pushL st l d) e.args (d + 1)) (d + 2) e.mems
  rw [stSize_push _ (by simp [Ex.sizes]), stSize_push _ (by simp [Ex.sizes])] at h
  rw [stSize_snoc]
  simp only [Ex.sizes]
  rw [Ex.size_eq]
  unfold nextSt
  omega

theorem nextSt_ok {N : Nat} {st : List (List Ex × Int)} {l : List Ex} {d : Int} {e : Ex} (h : stOk Ex.sizes N (st ++ [(e :: l, d)])) : stOk Ex.sizes N (nextSt st l d e) := by
  obtain ⟨h1, _, h2, h3⟩ := h.snoc
  simp only [Ex.sizes] at h2 h3
  have := Ex.size_eq e
  exact pushMs_ok ((h1.push (fun _ => ⟨h2, by omega⟩)).push (fun _ => ⟨by omega, by omega⟩)) (by omega) _ (by omega)

theorem nextSt_bound {N : Nat} {st : List (List Ex × Int)} {l : List Ex} {d : Int} {e : Ex} (h : stOk Ex.sizes (2 * N + 1) (st ++ [(e :: l, d)])) (hs : stSize Ex.sizes (st ++ [(e :: l, d)]) ≤ N) (hN : N ≤ 1000000) :
    st.length + e.mems.length ≤ 1000000000 ∧ 1 ≤ d ∧ d ≤ 1000000000 := by
  obtain ⟨h1, _, h2, h3⟩ := h.snoc
  have h4 := h1.length Ex.sizes_pos
  rw [stSize_snoc] at hs
  simp only [Ex.sizes] at h2 h3 hs
  have h5 := Ex.size_eq e
  have h6 := Mm.length_le e.mems
  omega

set_option maxRecDepth 100000 in
set_option maxHeartbeats 1000000 in
theorem size_any (w : World) (S : Nat → Prop) (e0 : Ex) (ev : Value) (hS : ∀ k, S k → k < w.heap.size) (he : ExV w S e0 ev) (hN : e0.size ≤ 1000000) :
    Calls Try.prog 14 #[ev] w fun e w' => e = .returned (.int .i64 e0.size) ∧ Below w.heap.size w w' := by
  have HE := Lib.hid he
  obtain ⟨N, hNe⟩ : ∃ N, N = e0.size := ⟨_, rfl⟩
  have HNe := Lib.hid hNe
  rw [← hNe] at hN ⊢
  clear hNe
  obtain ⟨fk, fs, fn, fargs, fnames, ftypes, fmems⟩ := e0
  unfold ExV at he
  obtain ⟨aA, cA, aN, cN, aT, cT, aM, cM, rfl, _⟩ := he
  go_enter Try.func14, Try.ntmps14
  go_wp2_with fail
  refine (startE _ S _ _ (fun k hk => by have := hS k hk; simp; omega) (ExV.keep (fun k hk => ⟨hk, Below.heap_alloc _ _ _ (hS k hk)⟩) _ _ HE.out)).mono ?_
  rintro e w1 ⟨v1, S1, rfl, hS1, hS2, hr1, hb1, ho1⟩
  obtain ⟨A1, c1, rfl⟩ := hr1.form
  obtain ⟨hw, hf, hb⟩ := begun hr1 ((Below.refl _ w).alloc (Nat.le_refl _) _) hb1 ho1
  have HW := Lib.hid hw
  have HF := Lib.hid hf
  have HB := Lib.hid hb
  clear hw hf hb hr1 hb1 ho1 hS1 hS2
  go_wp2
  go_loopw [3, 4, 5, 6] (fun s p _ _ wr => ∃ (acc g : Nat) (v : Value) (st : List (List Ex × Int)), s = .int .i64 acc ∧ p = .pointer (some ⟨g, 0, none⟩) ∧ WalkE wr S1 g v st ∧ Fresh w.heap.size g v ∧ Below w.heap.size w wr ∧ acc + stSize Ex.sizes st = N ∧ stOk Ex.sizes (2 * N + 1) st)
    (fun s _ _ _ _ => N - (intOf s).toNat)
  case atStart =>
    refine ⟨0, w1.heap.size, _, [([Ex.mk fk fs fn fargs fnames ftypes fmems], 1)], rfl, rfl, HW.out, HF.out, HB.out, ?_, ?_⟩
    · rw [HNe.out]; simp [stSize, Ex.sizes]
    · intro x hx
      simp at hx
      subst hx
      exact ⟨by simp, by simp, by simp only [Ex.sizes]; rw [HNe.out]; omega⟩
  case round =>
    obtain ⟨acc, g, v, st, rfl, rfl, hw, hf, hb, hsum, hok⟩ := hrel
    have hacc : acc ≤ 1000000 := by omega
    have HW1 := Lib.hid hw
    have HF1 := Lib.hid hf
    have HB1 := Lib.hid hb
    have HSum := Lib.hid hsum
    have HOk := Lib.hid hok
    clear hw hf hb hsum hok
    rcases snoc_cases st with rfl | ⟨st, ⟨l, d⟩, rfl⟩
    · go_wp2_with fail
      refine (moreE _ S1 g v [] false rfl HW1.out).mono ?_
      rintro e w2 ⟨rfl, rfl⟩
      go_wp2
      go_ret
      exact ⟨ret_int (by have := HSum.out; simp [stSize] at this; omega), HB1.out⟩
    · go_wp2_with fail
      refine (moreE _ S1 g v _ true (by simp) HW1.out).mono ?_
      rintro e w2 ⟨rfl, rfl⟩
      obtain ⟨e1, r, rfl⟩ := List.exists_cons_of_ne_nil (HOk.out.snoc).2.1
      obtain ⟨n1, n2, n3⟩ := nextSt_bound HOk.out (by have := HSum.out; omega) hN
      go_wp2_with fail
      refine (nextE _ S1 g v st e1 r d HW1.out n1 (by omega) n3).mono ?_
      rintro e w3 ⟨b, o, rfl, hp, v3, hw3, hs3⟩
      obtain ⟨A3, c3, rfl, hc3⟩ := hw3.form
      obtain ⟨xA, yA, xN, yN, xT, yT, xM, yM, f0, f1, f2, f3, f4, f5, f6, q0, q1, q2, q3, q4, q5, q6, q7, q8, q9, q10, q11, q12⟩ := hp.fields
      have hb3 : Below w.heap.size w w3 := HB1.out.trans (hs3.below HF1.out HB1.out.size)
      have hf3 := HF1.out.step hs3 HB1.out.size
      have hlen : e1.mems.length ≤ 1000000 := by have h1 := HSum.out; have h2 := nextSt_size st r d e1; omega
      have HB3 := Lib.hid hb3
      have HF3 := Lib.hid hf3
      have HW3 := Lib.hid hw3
      clear hb3 hf3 hw3 hs3 hp f0 f1 f2 f3 f4 f5 q0 q1 q2 q3 q4 q5 q6 q7 q8 q9 q10 q11 q12
      go_wp2
      go_roundw
      case rel =>
        obtain ⟨hw4, hf4⟩ := HW3.out.again HF3.out HB3.out.size
        exact ⟨acc + (1 + e1.mems.length), w3.heap.size, _, nextSt st r d e1, by go_num, rfl, hw4, hf4, HB3.out.alloc HB3.out.size _, by have h1 := HSum.out; have h2 := nextSt_size st r d e1; omega, nextSt_ok HOk.out⟩
      case measure =>
        have h1 := HSum.out
        have h2 := nextSt_size st r d e1
        simp [intOf]; omega

theorem deeps_pos (l : List Ex) (h : l ≠ []) : 1 ≤ Ex.deeps l := by
  cases l with
  | nil => exact absurd rfl h
  | cons a r => simp only [Ex.deeps]; have := Ex.deep_pos a; omega
theorem mdeeps_pos (l : List Mm) (h : l ≠ []) : 1 ≤ Mm.deeps l := by
  cases l with
  | nil => exact absurd rfl h
  | cons a r => simp only [Mm.deeps]; have := Mm.deep_eq a; omega
theorem nextSt_deep (st : List (List Ex × Int)) (l : List Ex) (d : Int) (e : Ex) (hd : 1 ≤ d) (m : Int) :
    max (max m (if e.mems = [] then d else d + 1)) (stDeep Ex.deeps (nextSt st l d e)) = max m (stDeep Ex.deeps (st ++ [(e :: l, d)])) := by
  unfold nextSt
  rw [pushMs_deep _ _ (by omega) _ _ (fun h => by rw [if_neg h]; omega), stDeep_push _ _ _ _ (by omega), stDeep_push _ _ _ _ hd, stDeep_snoc _ _ _ (by simp only []; omega)]
  simp only [Ex.deeps]
  rw [Ex.deep_eq]
  have := stDeep_nonneg Ex.deeps st
  have g1 : e.args ≠ [] → 1 ≤ Ex.deeps e.args := deeps_pos _
  have g2 : l ≠ [] → 1 ≤ Ex.deeps l := deeps_pos _
  have g3 : e.mems ≠ [] → 1 ≤ Mm.deeps e.mems := mdeeps_pos _
  by_cases h1 : e.args = [] <;> by_cases h2 : l = [] <;> by_cases h3 : e.mems = [] <;> simp only [h1, h2, h3, ↓reduceIte, Ex.deeps, Mm.deeps, ne_eq, not_true, not_false_iff, forall_const, false_implies] at g1 g2 g3 ⊢ <;> omega

set_option maxRecDepth 100000 in
set_option maxHeartbeats 1000000 in
theorem deep_any (w : World) (S : Nat → Prop) (e0 : Ex) (ev : Value) (hS : ∀ k, S k → k < w.heap.size) (he : ExV w S e0 ev) (hN : e0.size ≤ 1000000) :
    Calls Try.prog 16 #[ev] w fun e w' => e = .returned (.int .i64 e0.deep) ∧ Below w.heap.size w w' := by
  have HE := Lib.hid he
  obtain ⟨N, hNe⟩ : ∃ N, N = e0.size := ⟨_, rfl⟩
  have HNe := Lib.hid hNe
  rw [← hNe] at hN
  obtain ⟨D, hDe⟩ : ∃ D, D = e0.deep := ⟨_, rfl⟩
  have HDe := Lib.hid hDe
  rw [← hDe]
  clear hNe hDe
  obtain ⟨fk, fs, fn, fargs, fnames, ftypes, fmems⟩ := e0
  unfold ExV at he
  obtain ⟨aA, cA, aN, cN, aT, cT, aM, cM, rfl, _⟩ := he
  go_enter Try.func16, Try.ntmps16
  go_wp2_with fail
  refine (startE _ S _ _ (fun k hk => by have := hS k hk; simp; omega) (ExV.keep (fun k hk => ⟨hk, Below.heap_alloc _ _ _ (hS k hk)⟩) _ _ HE.out)).mono ?_
  rintro e w1 ⟨v1, S1, rfl, hS1, hS2, hr1, hb1, ho1⟩
  obtain ⟨A1, c1, rfl⟩ := hr1.form
  obtain ⟨hw, hf, hb⟩ := begun hr1 ((Below.refl _ w).alloc (Nat.le_refl _) _) hb1 ho1
  have HW := Lib.hid hw
  have HF := Lib.hid hf
  have HB := Lib.hid hb
  clear hw hf hb hr1 hb1 ho1 hS1 hS2
  go_wp2
  go_loopg [3, 4, 5, 6] N (fun k s p _ _ wr => ∃ (acc : Int) (g : Nat) (v : Value) (st : List (List Ex × Int)), s = .int .i64 acc ∧ 0 ≤ acc ∧ acc ≤ 2000002 ∧ p = .pointer (some ⟨g, 0, none⟩) ∧ WalkE wr S1 g v st ∧ Fresh w.heap.size g v ∧ Below w.heap.size w wr ∧ max acc (stDeep Ex.deeps st) = D ∧ stSize Ex.sizes st ≤ k ∧ k ≤ N ∧ stOk Ex.sizes (2 * N + 1) st)
  case atStart =>
    refine ⟨0, w1.heap.size, _, [([Ex.mk fk fs fn fargs fnames ftypes fmems], 1)], rfl, by omega, by omega, rfl, HW.out, HF.out, HB.out, ?_, ?_, Nat.le_refl _, ?_⟩
    · rw [HDe.out]; simp [stDeep, Ex.deeps]
    · rw [HNe.out]; simp [stSize, Ex.sizes]
    · intro x hx
      simp at hx
      subst hx
      exact ⟨by simp, by simp, by simp only [Ex.sizes]; rw [HNe.out]; omega⟩
  case round =>
    obtain ⟨acc, g, v, st, rfl, hacc0, hacc, rfl, hw, hf, hb, hdeep, hsum, hkN, hok⟩ := hrel
    have HW1 := Lib.hid hw
    have HF1 := Lib.hid hf
    have HB1 := Lib.hid hb
    have HSum := Lib.hid hsum
    have HDeep := Lib.hid hdeep
    have HOk := Lib.hid hok
    clear hw hf hb hsum hok hdeep
    rcases snoc_cases st with rfl | ⟨st, ⟨l, d⟩, rfl⟩
    · go_wp2_with fail
      refine (moreE _ S1 g v [] false rfl HW1.out).mono ?_
      rintro e w2 ⟨rfl, rfl⟩
      go_wp2
      go_ret
      exact ⟨ret_int (by have := HDeep.out; simp [stDeep] at this; omega), HB1.out⟩
    · go_wp2_with fail
      refine (moreE _ S1 g v _ true (by simp) HW1.out).mono ?_
      rintro e w2 ⟨rfl, rfl⟩
      obtain ⟨e1, r, rfl⟩ := List.exists_cons_of_ne_nil (HOk.out.snoc).2.1
      have hd9 : d ≤ 2000001 := by have := HOk.out.snoc.2.2.2; omega
      obtain ⟨n1, n2, n3⟩ := nextSt_bound HOk.out (by have := HSum.out; omega) hN
      go_wp2_with fail
      refine (nextE _ S1 g v st e1 r d HW1.out n1 (by omega) n3).mono ?_
      rintro e w3 ⟨b, o, rfl, hp, v3, hw3, hs3⟩
      obtain ⟨A3, c3, rfl, hc3⟩ := hw3.form
      obtain ⟨xA, yA, xN, yN, xT, yT, xM, yM, f0, f1, f2, f3, f4, f5, f6, q0, q1, q2, q3, q4, q5, q6, q7, q8, q9, q10, q11, q12⟩ := hp.fields
      have hb3 : Below w.heap.size w w3 := HB1.out.trans (hs3.below HF1.out HB1.out.size)
      have hf3 := HF1.out.step hs3 HB1.out.size
      have hlen : e1.mems.length ≤ 1000000 := by have h1 := HSum.out; have h2 := nextSt_size st r d e1; omega
      have HB3 := Lib.hid hb3
      have HF3 := Lib.hid hf3
      have HW3 := Lib.hid hw3
      clear hb3 hf3 hw3 hs3 hp f0 f1 f2 f3 f4 f5 q0 q1 q2 q3 q4 q5 q6 q7 q8 q9 q10 q11 q12
      by_cases hm : e1.mems = []
      · have hm0 : e1.mems.length = 0 := by rw [hm]; rfl
        have HM := Lib.hid hm
        rw [hm0] at f6
        clear hm hm0
        go_wp2
        all_goals
          go_roundg (gk - 1)
          case measure => have h1 := HSum.out; have h2 := nextSt_size st r d e1; omega
          case rel =>
            obtain ⟨hw4, hf4⟩ := HW3.out.again HF3.out HB3.out.size
            refine ⟨max acc d, w3.heap.size, _, nextSt st r d e1, by go_num, by omega, by omega, rfl, hw4, hf4, HB3.out.alloc HB3.out.size _, ?_, ?_, by omega, nextSt_ok HOk.out⟩
            · have := nextSt_deep st r d e1 n2 acc
              rw [if_pos HM.out] at this
              rw [this, HDeep.out]
            · have h1 := HSum.out; have h2 := nextSt_size st r d e1; omega
      · have hm0 : 0 < e1.mems.length := List.length_pos_iff.2 hm
        have HM := Lib.hid hm
        clear hm
        go_wp2
        all_goals
          go_roundg (gk - 1)
          case measure => have h1 := HSum.out; have h2 := nextSt_size st r d e1; omega
          case rel =>
            obtain ⟨hw4, hf4⟩ := HW3.out.again HF3.out HB3.out.size
            refine ⟨max acc (d + 1), w3.heap.size, _, nextSt st r d e1, by go_num, by omega, by omega, rfl, hw4, hf4, HB3.out.alloc HB3.out.size _, ?_, ?_, by omega, nextSt_ok HOk.out⟩
            · have := nextSt_deep st r d e1 n2 acc
              rw [if_neg HM.out] at this
              rw [this, HDeep.out]
            · have h1 := HSum.out; have h2 := nextSt_size st r d e1; omega

end Go.Proofs.Ythgbldkcgfggfaa
