/-
  trefoilref02.mayMember, given may.
-/
import Derived.Test.YthgbldkcgfggfaaRMayT
import Derived.Test.YthgbldkcgfggfaaRDeep
namespace Go.Proofs.Ythgbldkcgfggfaa
open Go.RowKit

theorem alls_drop (l : List Ex) (k : Nat) (h : k < l.length) : Ex.alls okNode (l.drop k) = (l[k].all okNode && Ex.alls okNode (l.drop (k + 1))) := by
  rw [List.drop_eq_getElem_cons h]; rfl

set_option maxRecDepth 100000 in
set_option maxHeartbeats 2000000 in
theorem rmayM_of (f : Nat) (ih : ∀ (e0 : Ex) (w : World) (S : Nat → Prop) (ev : Value) (r : Bool), e0.size ≤ f → (∀ k, S k → k < w.heap.size) → ExV w S e0 ev → e0.all okNode = r →
      Calls Try.prog 35 #[ev] w fun e w' => e = .returned (.bool r) ∧ Below w.heap.size w w')
    (m0 : Mm) (w : World) (S : Nat → Prop) (ev : Value) (r : Bool) (hsum : Ex.sizes m0.args ≤ f) (hS : ∀ k, S k → k < w.heap.size) (he : MmV w S m0 ev) (hr : (mmOk m0 && m0.all okNode) = r) :
    Calls Try.prog 59 #[ev] w fun e w' => e = .returned (.bool r) ∧ Below w.heap.size w w' := by
  have IH := Lib.hid ih
  clear ih
  obtain ⟨fk, fs, fas, fargs, ftypes⟩ := m0
  simp only [Mm.args] at hsum
  unfold MmV at he
  obtain ⟨aA, cA, aT, cT, rfl, hs, has, hA, hA9, hT1, hT9, oA, oT⟩ := he
  have HOA := Lib.hid oA
  clear oA oT
  go_enter Try.func59, Try.ntmps59
  obtain ⟨q, hq⟩ : ∃ q, mmOk (.mk fk fs fas fargs ftypes) = q := ⟨_, rfl⟩
  have hqr : (q && Ex.alls okNode fargs) = r := by rw [← hr, ← hq, Mm.all_eq]; rfl
  have HSM := Lib.hid hsum
  have HQR := Lib.hid hqr
  have HQ := Lib.hid hq
  clear hsum hqr hq hr
  have hs9 : fs.size ≤ maxLen := hs
  have has9 : fas.size ≤ maxLen := has
  unfold maxLen at hA9 hT9
  go_wp2
  obtain ⟨w1, hw1⟩ : ∃ w1, w1 = w.alloc (.cells #[.int .i64 fk, .string fs, .string fas, .slice aA fargs.length cA, .slice aT ftypes.length cT] 49) := ⟨_, rfl⟩
  have hsz1 : w1.heap.size = w.heap.size + 1 := by rw [hw1]; simp
  have hbw : ∀ W, Below w1.heap.size w1 W → Below w.heap.size w W := fun W hW => ((Below.refl _ w).alloc (Nat.le_refl _) _).trans (hw1 ▸ hW.mono (by omega))
  have hrow : ∀ W, Below w1.heap.size w1 W → ∀ j, W.cell? ⟨w.heap.size, j, none⟩ = (#[.int .i64 fk, .string fs, .string fas, .slice aA fargs.length cA, .slice aT ftypes.length cT] : Array Value)[j]? := fun W hW j =>
    cell_of_row W _ j _ _ _ ((hW.block _ (by omega)).trans (by rw [hw1]; exact heap_alloc_new w _))
  have HRow := Lib.hid hrow
  have HBw := Lib.hid hbw
  rw [← hw1]
  clear hbw hw1 hsz1 hrow
  go_loopw [4, 8] (fun _ i wr => ∃ k : Nat, i = .int .i64 k ∧ k ≤ fargs.length ∧ (q && Ex.alls okNode (fargs.drop k)) = r ∧ Below w1.heap.size w1 wr) (fun _ i _ => fargs.length - (intOf i).toNat)
  case atStart => exact ⟨0, rfl, Nat.zero_le _, by rw [List.drop_zero]; exact HQR.out, Below.refl _ _⟩
  case round =>
    obtain ⟨k, rfl, hk, hq, hb⟩ := hrel
    have Hq := Lib.hid hq
    have HB := Lib.hid hb
    clear hq hb
    by_cases hlt : k < fargs.length
    · obtain ⟨bm, om, rfl, hmp⟩ := ExsO.get _ _ (ExsO.keep (fun k hk => ⟨hk, (HBw.out _ HB.out).block k (hS k hk)⟩) _ _ HOA.out) k hlt
      have hd := alls_drop fargs k hlt
      have hsg := sizes_get fargs k hlt
      obtain ⟨m, hm⟩ : ∃ m, m = fargs[k] := ⟨_, rfl⟩
      rw [← hm] at hmp hd hsg
      have hq := Hq.out
      rw [hd] at hq
      have hms : m.size ≤ f := by have := HSM.out; omega
      obtain ⟨xA, yA, xN, yN, xT, yT, xM, yM, f0, f1, f2, f3, f4, f5, f6, hv, _⟩ := hmp.val
      have hSr : ∀ k, S k → k < wr.heap.size := fun k hk => Nat.lt_of_lt_of_le (hS k hk) (HBw.out _ HB.out).size
      have HV := Lib.hid hv
      clear hm hmp hv hd hsg
      rcases hc : m.all okNode with _ | _
      · have hrr : false = r := by rw [← hq, hc]; simp
        subst hrr
        have HC := Lib.hid hc
        clear hc hq
        go_wp2_with (go_at_call 35; refine (IH.out m _ S _ false hms (fun k hk => by have := hSr k hk; simp; omega) (ExV.keep (fun k hk => ⟨hk, Below.heap_alloc _ _ _ (hSr k hk)⟩) _ _ HV.out) HC.out).mono ?_; rintro e w' ⟨rfl, hb2⟩; have HB2 := Lib.hid hb2; clear hb2)
        go_ret
        exact ⟨rfl, HBw.out _ ((HB.out.alloc HB.out.size _).trans (HB2.out.mono (by have := HB.out.size; simp; omega)))⟩
      · rw [hc, Bool.true_and] at hq
        have HC := Lib.hid hc
        have HQ' := Lib.hid hq
        clear hc hq
        go_wp2_with (go_at_call 35; refine (IH.out m _ S _ true hms (fun k hk => by have := hSr k hk; simp; omega) (ExV.keep (fun k hk => ⟨hk, Below.heap_alloc _ _ _ (hSr k hk)⟩) _ _ HV.out) HC.out).mono ?_; rintro e w' ⟨rfl, hb2⟩; have HB2 := Lib.hid hb2; clear hb2)
        go_roundw
        case rel => exact ⟨k + 1, by go_num, by omega, HQ'.out, (HB.out.alloc HB.out.size _).trans (HB2.out.mono (by have := HB.out.size; simp; omega))⟩
        case measure => simp [intOf]; omega
    · have hk' : k = fargs.length := by omega
      have hqq : q = r := by have := Hq.out; rw [hk', List.drop_length] at this; simpa [Ex.alls] using this
      subst hqq
      clear hk'
      obtain ⟨c0, c1, c2, c3, c4⟩ := (⟨HRow.out wr HB.out 0, HRow.out wr HB.out 1, HRow.out wr HB.out 2, HRow.out wr HB.out 3, HRow.out wr HB.out 4⟩ : _ ∧ _ ∧ _ ∧ _ ∧ _)
      simp only [List.getElem?_toArray, List.getElem?_cons_zero, List.getElem?_cons_succ] at c0 c1 c2 c3 c4
      clear Hq HQR HRow
      obtain ⟨pn, hpn⟩ : ∃ b, Pl.nameB fs.data.toList = b := ⟨_, rfl⟩
      obtain ⟨pa, hpa⟩ : ∃ b, Pl.nameB fas.data.toList = b := ⟨_, rfl⟩
      have HPN := Lib.hid hpn
      have HPA := Lib.hid hpa
      clear hpn hpa
      have htz : ((0 : Int) < (ftypes.length : Int) ∧ ftypes ≠ []) ∨ (¬ (0 : Int) < (ftypes.length : Int) ∧ ftypes = []) := by
        cases ftypes with
        | nil => exact .inr ⟨by simp, rfl⟩
        | cons a r => exact .inl ⟨by simp only [List.length_cons]; omega, by simp⟩
      by_cases hk1 : fk = 1
      · subst hk1
        have hqq : q = ((decide (fas.size = 0) || pa) && (pn && decide (ftypes.length = 0))) := by rw [← HQ.out, ← HPN.out, ← HPA.out]; simp [mmOk]
        have HQQ := Lib.hid hqq
        clear hqq
        rcases htz with ⟨ht1, ht2⟩ | ⟨ht1, ht2⟩ <;>
        · go_wp2_with (first | (go_at_call 60; with_reducible refine (rIsName_r fs _ HPN.out _ hs9).mono ?_; rintro e w' ⟨rfl, rfl⟩) | (go_at_call 60; with_reducible refine (rIsName_r fas _ HPA.out _ has9).mono ?_; rintro e w' ⟨rfl, rfl⟩))
          all_goals go_ret
          all_goals refine ⟨ret_bool ?_, HBw.out _ HB.out⟩
          all_goals rw [HQQ.out]
          all_goals clear HQQ HQ HPN HPA
          all_goals go_light
          all_goals simp_all [tl_nil]
      by_cases hk4 : fk = 4
      · subst hk4
        have hqq : q = (decide (ftypes.length = 1) && (pn && (decide (fas.size = 0) && decide (fargs.length = 0)))) := by rw [← HQ.out, ← HPN.out]; simp [mmOk]
        have HQQ := Lib.hid hqq
        clear hqq
        go_wp2_with (go_at_call 60; with_reducible refine (rIsName_r fs _ HPN.out _ hs9).mono ?_; rintro e w' ⟨rfl, rfl⟩)
        all_goals go_ret
        all_goals refine ⟨ret_bool ?_, HBw.out _ HB.out⟩
        all_goals rw [HQQ.out]
        all_goals clear HQQ HQ HPN HPA
        all_goals go_light
        all_goals simp_all [ilen1, tl_nil]
      by_cases hk23 : fk = 2 ∨ fk = 3
      · have hqq : q = (decide (fargs.length = 1) && (pn && (decide (fas.size = 0) && decide (ftypes.length = 0)))) := by rw [← HQ.out, ← HPN.out]; simp [mmOk, hk1, hk23]
        have HQQ := Lib.hid hqq
        clear hqq hk1 hk4
        rcases hk23 with rfl | rfl <;> rcases htz with ⟨ht1, ht2⟩ | ⟨ht1, ht2⟩ <;>
        · go_wp2_with (go_at_call 60; with_reducible refine (rIsName_r fs _ HPN.out _ hs9).mono ?_; rintro e w' ⟨rfl, rfl⟩)
          all_goals go_ret
          all_goals refine ⟨ret_bool ?_, HBw.out _ HB.out⟩
          all_goals rw [HQQ.out]
          all_goals clear HQQ HQ HPN HPA
          all_goals go_light
          all_goals simp_all [ilen1, tl_nil]
      · have hqq : q = false := by rw [← HQ.out]; simp [mmOk, hk1, hk23, hk4]
        subst hqq
        simp only [not_or] at hk23
        obtain ⟨hk2, hk3⟩ := hk23
        rcases htz with ⟨ht1, ht2⟩ | ⟨ht1, ht2⟩ <;>
        · go_wp2_with (go_at_call 60; with_reducible refine (rIsName_r fs _ HPN.out _ hs9).mono ?_; rintro e w' ⟨rfl, rfl⟩)
          all_goals go_ret
          all_goals exact ⟨rfl, HBw.out _ HB.out⟩
/-- Whether a member may be, and all parts of it. -/
def mo (m : Mm) : Bool := mmOk m && m.all okNode
theorem malls_eq (l : List Mm) : (l.all mmOk && Mm.alls okNode l) = l.all mo := by
  induction l with
  | nil => rfl
  | cons a r ih =>
    simp only [List.all_cons, Mm.alls, ← ih, mo]
    cases mmOk a <;> cases r.all mmOk <;> cases a.all okNode <;> cases Mm.alls okNode r <;> rfl
theorem Ex.all_mo (e : Ex) : e.all okNode = (exOk e && (Ex.alls okNode e.args && e.mems.all mo)) := by
  rw [Ex.all_eq, okNode, ← malls_eq]
  cases exOk e <;> cases e.mems.all mmOk <;> cases Ex.alls okNode e.args <;> cases Mm.alls okNode e.mems <;> rfl
theorem len_cases {α : Type} (l : List α) : ((0 : Int) < (l.length : Int) ∧ l ≠ []) ∨ (¬ (0 : Int) < (l.length : Int) ∧ l = []) := by
  cases l with
  | nil => exact .inr ⟨by simp, rfl⟩
  | cons a r => exact .inl ⟨by simp only [List.length_cons]; omega, by simp⟩
theorem es0 : (⟨#[]⟩ : ByteArray).size = 0 := rfl
theorem ilen3 (n : Nat) : ((n : Int) == 3) = decide (n = 3) := ilenk n 3
theorem ilenr (n k : Nat) : ((n : Int) == (k : Int)) = decide (n = k) := ilenk n k
theorem ic1 (n : Nat) : ((n : Int) = 1) = (n = 1) := propext (by omega)
theorem ic2 (n : Nat) : ((n : Int) = 2) = (n = 2) := propext (by omega)
theorem ilenk6 (n : Int) : (n == 6) = decide (n = 6) := by
  by_cases h : n = 6
  · subst h; rfl
  · rw [decide_eq_false h, beq_eq_false_iff_ne]; exact h
theorem ilenk65 (n : Nat) : decide ((n : Int) ≤ 65536) = decide (n ≤ 65536) := decide_eq_decide.2 (by omega)
theorem num01 (n : Int) : (n == 0 || n == 1) = (decide (n ≤ 1) && decide (0 ≤ n)) := by
  by_cases h0 : n = 0
  · subst h0; rfl
  · by_cases h1 : n = 1
    · subst h1; rfl
    · have e0 : (n == 0) = false := by rw [beq_eq_false_iff_ne]; exact h0
      have e1 : (n == 1) = false := by rw [beq_eq_false_iff_ne]; exact h1
      rw [e0, e1]
      by_cases h2 : n ≤ 1
      · rw [decide_eq_true h2, decide_eq_false (by omega : ¬ 0 ≤ n)]; rfl
      · rw [decide_eq_false h2]; rfl

end Go.Proofs.Ythgbldkcgfggfaa
