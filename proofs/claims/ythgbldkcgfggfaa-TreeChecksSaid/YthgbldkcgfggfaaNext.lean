/-
  The walks' steps: nextType and nextExpr take one tree off, and leave its parts; addTypes leaves an expression's types.
-/
import Derived.Test.YthgbldkcgfggfaaWalkE
import Derived.Test.YthgbldkcgfggfaaWalkT
namespace Go.Proofs.Ythgbldkcgfggfaa
open Go.RowKit

theorem Step.same {w w' : World} {S : Nat → Prop} {g : Nat} {v v' : Value} (h : Step w w' g v v') (ha : ∀ k, S k → ¬ Own g v k) (ho : ∀ k, S k → k < w.heap.size) : ∀ k, S k → S k ∧ w'.heap[k]? = w.heap[k]? :=
  fun k hk => ⟨hk, h.keeps.block k (ho k hk) (ha k hk)⟩

set_option maxRecDepth 100000 in
set_option maxHeartbeats 400000 in
theorem nextT (w : World) (S : Nat → Prop) (g : Nat) (v : Value) (st : List (List Ty × Int)) (e0 : Ty) (l : List Ty) (d : Int) (h : WalkT w S g v (st ++ [(e0 :: l, d)])) (hn : st.length ≤ 1000000000) (hd0 : 0 ≤ d) (hd1 : d ≤ 1000000000) :
    Calls Try.prog 57 #[.pointer (some ⟨g, 0, none⟩)] w fun e w' => ∃ b o, e = .returned (.tuple #[.pointer (some ⟨b, o, none⟩), .int .i64 d]) ∧ TyP w' S b o e0 ∧
      ∃ v', WalkT w' S g v' (pushL (pushL st l d) e0.args (d + 1)) ∧ Step w w' g v v' := by
  have H := Lib.hid h
  have Hn := Lib.hid hn
  clear h hn
  go_enter Try.func57, Try.ntmps57
  go_wp2_with fail
  refine (takeT w S g v st e0 l d H.out).mono ?_
  rintro e w1 ⟨b, o, rfl, hp1, v1, hw1, hs1⟩
  obtain ⟨aA, cA, aL, cL, f0, f1, f2, f3, f4, q0, q1, q2, q3, q4, q5, q6⟩ := hp1.fields
  have HP := Lib.hid hp1
  have HW := Lib.hid hw1
  have HS := Lib.hid hs1
  have Q5 := Lib.hid q5
  clear hp1 hw1 hs1 f0 f1 f3 f4 q5 q6
  go_wp2_with fail
  refine (addT _ S g v1 _ e0.args _ aA cA (d + 1) HW.out (by have := pushL_length st l d; have := Hn.out; omega) rfl q1 q2 Q5.out).mono ?_
  rintro e w2 ⟨rfl, v2, hw2, hs2⟩
  have HW2 := Lib.hid hw2
  have HS2 := Lib.hid hs2
  clear hw2 hs2
  go_wp2
  go_ret2
  exact ⟨b, o, rfl, HP.out.keep (HS2.out.same HW.out.apart HW.out.old), v2, HW2.out, HS.out.trans HS2.out⟩

set_option maxRecDepth 100000 in
set_option maxHeartbeats 1000000 in
theorem nextE (w : World) (S : Nat → Prop) (g : Nat) (v : Value) (st : List (List Ex × Int)) (e0 : Ex) (l : List Ex) (d : Int) (h : WalkE w S g v (st ++ [(e0 :: l, d)])) (hn : st.length + e0.mems.length ≤ 1000000000) (hd0 : 0 ≤ d) (hd1 : d ≤ 1000000000) :
    Calls Try.prog 30 #[.pointer (some ⟨g, 0, none⟩)] w fun e w' => ∃ b o, e = .returned (.tuple #[.pointer (some ⟨b, o, none⟩), .int .i64 d]) ∧ ExP w' S b o e0 ∧
      ∃ v', WalkE w' S g v' (pushMs (pushL (pushL st l d) e0.args (d + 1)) (d + 2) e0.mems) ∧ Step w w' g v v' := by
  have H := Lib.hid h
  have Hn := Lib.hid hn
  clear h hn
  go_enter Try.func30, Try.ntmps30
  go_wp2_with fail
  refine (takeE w S g v st e0 l d H.out).mono ?_
  rintro e w1 ⟨b, o, rfl, hp1, v1, hw1, hs1⟩
  obtain ⟨aA, cA, aN, cN, aT, cT, aM, cM, f0, f1, f2, f3, f4, f5, f6, q0, q1, q2, q3, q4, q5, q6, q7, q8, q9, q10, q11, q12⟩ := hp1.fields
  have HP := Lib.hid hp1
  have HW := Lib.hid hw1
  have HS := Lib.hid hs1
  have Q9 := Lib.hid q9
  have Q12 := Lib.hid q12
  have F6 := Lib.hid f6
  clear hp1 hw1 hs1 f0 f1 f2 f4 f5 f6 q9 q10 q11 q12 q3 q4 q5 q6
  go_wp2_with fail
  refine (addE _ S g v1 _ e0.args _ aA cA (d + 1) HW.out (by have := pushL_length st l d; have := Hn.out; omega) rfl q1 q2 Q9.out).mono ?_
  rintro e w2 ⟨rfl, v2, hw2, hs2⟩
  have hsame := hs2.same HW.out.apart HW.out.old
  have hb := HP.out.1
  have g6 := (World.cell?_of_block (a := ⟨b, o + 6, none⟩) (hsame b hb).2).trans F6.out
  have hp2 := HP.out.keep hsame
  have hm2 := MmsO.keep hsame _ _ Q12.out
  have HB := Lib.hid hb
  have HP2 := Lib.hid hp2
  have HM2 := Lib.hid hm2
  have HW2 := Lib.hid hw2
  have HS2 := Lib.hid hs2
  have G6 := Lib.hid g6
  unfold maxLen at q8
  clear hw2 hs2 hsame hp2 hm2 f3 q0 q1 q2 hb
  go_wp2
  go_loopw [6, 25] (fun _ i wr => ∃ (k : Nat) (v' : Value), i = .int .i64 k ∧ k ≤ e0.mems.length ∧ WalkE wr S g v' (pushMs (pushL (pushL st l d) e0.args (d + 1)) (d + 2) (e0.mems.take k)) ∧ Step w2 wr g v2 v') (fun _ i _ => e0.mems.length - (intOf i).toNat)
  case atStart => exact ⟨0, v2, rfl, Nat.zero_le _, by simpa [pushMs] using HW2.out, Step.refl _ _ _⟩
  case round =>
    obtain ⟨k, v3, rfl, hk, hw3, hs3⟩ := hrel
    have hsame := hs3.same HW2.out.apart HW2.out.old
    have c6 := (World.cell?_of_block (a := ⟨b, o + 6, none⟩) (hsame b HB.out).2).trans G6.out
    have HW3 := Lib.hid hw3
    have HS3 := Lib.hid hs3
    clear hw3 hs3 g6
    by_cases hlt : k < e0.mems.length
    · obtain ⟨bm, om, rfl, hmp⟩ := MmsO.get _ _ (MmsO.keep hsame _ _ HM2.out) k hlt
      obtain ⟨mA, mc, mT, mtc, m0, m1, m2, m3, m4, r0, r1, r2, r3, r4, r5, r6, r7⟩ := hmp.fields
      have R6 := Lib.hid r6
      clear hsame hmp m0 m1 m2 m4 r0 r1 r4 r5 r6 r7
      go_wp2_with fail
      refine (addE _ S g v3 _ e0.mems[k].args _ mA mc (d + 2) HW3.out (by have h1 := pushL_length st l d; have h2 := pushL_length (pushL st l d) e0.args (d + 1); have h3 := pushMs_length (pushL (pushL st l d) e0.args (d + 1)) (d + 2) (e0.mems.take k); have h4 := Hn.out; rw [List.length_take] at h3; omega) rfl r2 r3 R6.out).mono ?_
      rintro e w4 ⟨rfl, v4, hw4, hs4⟩
      have HW4 := Lib.hid hw4
      have HS4 := Lib.hid hs4
      clear hw4 hs4
      go_wp2
      go_roundw
      case rel => exact ⟨k + 1, v4, by go_num, by omega, by rw [List.take_succ_eq_append_getElem hlt, pushMs_snoc]; exact HW4.out, HS3.out.trans HS4.out⟩
      case measure => simp [intOf]; omega
    · have hk' : k = e0.mems.length := by omega
      have hfin : e0.mems.take k = e0.mems := by rw [hk', List.take_length]
      have HF := Lib.hid hfin
      clear hk' hfin hsame
      go_wp2
      go_ret2
      refine ⟨b, o, rfl, HP2.out.keep (HS3.out.same HW2.out.apart HW2.out.old), v3, ?_, (HS.out.trans HS2.out).trans HS3.out⟩
      have := HW3.out
      rw [HF.out] at this
      exact this

set_option maxRecDepth 100000 in
set_option maxHeartbeats 1000000 in
theorem addTypes (w : World) (S S' : Nat → Prop) (g : Nat) (v : Value) (st : List (List Ty × Int)) (b o : Nat) (e0 : Ex) (h : WalkT w S g v st) (hp : ExP w S' b o e0) (hS : ∀ k, S' k → S k) (hn : st.length + e0.mems.length ≤ 1000000000) :
    Calls Try.prog 33 #[.pointer (some ⟨g, 0, none⟩), .pointer (some ⟨b, o, none⟩)] w fun e w' => e = .returned (.tuple #[]) ∧
      ∃ v', WalkT w' S g v' (pushTs (pushL st e0.types 1) e0.mems) ∧ Step w w' g v v' := by
  have hp' : ExP w S b o e0 := hp.keep (fun k hk => ⟨hS k hk, rfl⟩)
  obtain ⟨aA, cA, aN, cN, aT, cT, aM, cM, f0, f1, f2, f3, f4, f5, f6, q0, q1, q2, q3, q4, q5, q6, q7, q8, q9, q10, q11, q12⟩ := hp'.fields
  have HB := Lib.hid hp'.1
  have H := Lib.hid h
  have Hn := Lib.hid hn
  have Q11 := Lib.hid q11
  have Q12 := Lib.hid q12
  have F6 := Lib.hid f6
  clear h hn hp hp' f0 f1 f2 f3 f4 f6 q0 q1 q2 q3 q4 q9 q10 q11 q12
  go_enter Try.func33, Try.ntmps33
  go_wp2_with fail
  refine (addT w S g v st e0.types _ aT cT 1 H.out (by have := Hn.out; omega) rfl q5 q6 Q11.out).mono ?_
  rintro e w2 ⟨rfl, v2, hw2, hs2⟩
  have hsame := hs2.same H.out.apart H.out.old
  have g6 := (World.cell?_of_block (a := ⟨b, o + 6, none⟩) (hsame b HB.out).2).trans F6.out
  have hm2 := MmsO.keep hsame _ _ Q12.out
  have HM2 := Lib.hid hm2
  have HW2 := Lib.hid hw2
  have HS2 := Lib.hid hs2
  have G6 := Lib.hid g6
  unfold maxLen at q8
  clear hw2 hs2 hsame hm2 f5 q5 q6
  go_wp2
  go_loopw [4, 16] (fun _ i wr => ∃ (k : Nat) (v' : Value), i = .int .i64 k ∧ k ≤ e0.mems.length ∧ WalkT wr S g v' (pushTs (pushL st e0.types 1) (e0.mems.take k)) ∧ Step w2 wr g v2 v') (fun _ i _ => e0.mems.length - (intOf i).toNat)
  case atStart => exact ⟨0, v2, rfl, Nat.zero_le _, by simpa [pushTs] using HW2.out, Step.refl _ _ _⟩
  case round =>
    obtain ⟨k, v3, rfl, hk, hw3, hs3⟩ := hrel
    have hsame := hs3.same HW2.out.apart HW2.out.old
    have c6 := (World.cell?_of_block (a := ⟨b, o + 6, none⟩) (hsame b HB.out).2).trans G6.out
    have HW3 := Lib.hid hw3
    have HS3 := Lib.hid hs3
    clear hw3 hs3 g6
    by_cases hlt : k < e0.mems.length
    · obtain ⟨bm, om, rfl, hmp⟩ := MmsO.get _ _ (MmsO.keep hsame _ _ HM2.out) k hlt
      obtain ⟨mA, mc, mT, mtc, m0, m1, m2, m3, m4, r0, r1, r2, r3, r4, r5, r6, r7⟩ := hmp.fields
      have R7 := Lib.hid r7
      clear hsame hmp m0 m1 m2 m3 r0 r1 r2 r3 r6 r7
      go_wp2_with fail
      refine (addT _ S g v3 _ e0.mems[k].types _ mT mtc 1 HW3.out (by have h1 := pushL_length st e0.types 1; have h3 := pushTs_length (pushL st e0.types 1) (e0.mems.take k); have h4 := Hn.out; rw [List.length_take] at h3; omega) rfl r4 r5 R7.out).mono ?_
      rintro e w4 ⟨rfl, v4, hw4, hs4⟩
      have HW4 := Lib.hid hw4
      have HS4 := Lib.hid hs4
      clear hw4 hs4
      go_wp2
      go_roundw
      case rel => exact ⟨k + 1, v4, by go_num, by omega, by rw [List.take_succ_eq_append_getElem hlt, pushTs_snoc]; exact HW4.out, HS3.out.trans HS4.out⟩
      case measure => simp [intOf]; omega
    · have hk' : k = e0.mems.length := by omega
      have hfin : e0.mems.take k = e0.mems := by rw [hk', List.take_length]
      have HF := Lib.hid hfin
      clear hk' hfin hsame
      go_wp2
      go_end0
      refine ⟨rfl, v3, ?_, HS2.out.trans HS3.out⟩
      have := HW3.out
      rw [HF.out] at this
      exact this

end Go.Proofs.Ythgbldkcgfggfaa
