/-
  tree.checkTypes, CheckType, membersMayBe and Check: what they answer.
-/
import Derived.Test.YthgbldkcgfggfaaMm
import Derived.Test.YthgbldkcgfggfaaExpr
namespace Go.Proofs.Ythgbldkcgfggfaa
open Go.RowKit

set_option maxRecDepth 100000 in
set_option maxHeartbeats 1000000 in
theorem membersMayBe_r (w : World) (S : Nat → Prop) (l : List Mm) (A : Option Addr) (c : Nat) (r : Bool) (hS : ∀ k, S k → k < w.heap.size) (hl : MmsO w S l A) (hlc : l.length ≤ c) (hcm : c ≤ maxLen) (hr : l.all mmOk = r) :
    Calls Try.prog 32 #[.slice A l.length c] w fun e w' => e = .returned (.bool r) ∧ Below w.heap.size w w' := by
  unfold maxLen at hcm
  have HR := Lib.hid hr
  have HL := Lib.hid hl
  clear hr hl
  go_enter Try.func32, Try.ntmps32
  go_wp2
  go_loopw [4, 7] (fun _ i wr => ∃ k : Nat, i = .int .i64 k ∧ k ≤ l.length ∧ (l.drop k).all mmOk = r ∧ Below w.heap.size w wr) (fun _ i _ => l.length - (intOf i).toNat)
  case atStart => exact ⟨0, rfl, Nat.zero_le _, by simpa using HR.out, Below.refl _ _⟩
  case round =>
    obtain ⟨k, rfl, hk, hq, hb⟩ := hrel
    have Hq := Lib.hid hq
    have HB := Lib.hid hb
    clear hq hb
    by_cases hlt : k < l.length
    · obtain ⟨bm, om, rfl, hmp⟩ := MmsO.get _ _ (MmsO.keep (fun k hk => ⟨hk, HB.out.block k (hS k hk)⟩) _ _ HL.out) k hlt
      have hd : (l.drop k).all mmOk = (mmOk l[k] && (l.drop (k + 1)).all mmOk) := by rw [List.drop_eq_getElem_cons hlt]; rfl
      rw [Hq.out] at hd
      obtain ⟨m, hm⟩ : ∃ m, m = l[k] := ⟨_, rfl⟩
      rw [← hm] at hmp hd
      obtain ⟨aA, cA, aT, cT, f0, f1, f2, f3, f4, hv⟩ := hmp.val
      have hSr : ∀ k, S k → k < wr.heap.size := fun k hk => Nat.lt_of_lt_of_le (hS k hk) HB.out.size
      have HV := Lib.hid hv
      clear hm hmp hv
      rcases hn : mmOk m with _ | _
      · have hrr : false = r := by rw [hd, hn]; rfl
        subst hrr
        have HN := Lib.hid hn
        clear hn hd
        go_wp2_with (go_at_call 54; refine (memberMayBe_r _ S m _ false (MmV.keep (fun k hk => ⟨hk, Below.heap_alloc _ _ _ (hSr k hk)⟩) _ _ HV.out) HN.out).mono ?_; rintro e w' ⟨rfl, hb2⟩; have HB2 := Lib.hid hb2; clear hb2)
        go_ret
        exact ⟨rfl, (HB.out.alloc HB.out.size _).trans (HB2.out.mono (by have := HB.out.size; simp; omega))⟩
      · rw [hn, Bool.true_and] at hd
        have HN := Lib.hid hn
        have HD := Lib.hid hd
        clear hn hd
        go_wp2_with (go_at_call 54; refine (memberMayBe_r _ S m _ true (MmV.keep (fun k hk => ⟨hk, Below.heap_alloc _ _ _ (hSr k hk)⟩) _ _ HV.out) HN.out).mono ?_; rintro e w' ⟨rfl, hb2⟩; have HB2 := Lib.hid hb2; clear hb2)
        go_roundw
        case rel => exact ⟨k + 1, by go_num, by omega, HD.out.symm, (HB.out.alloc HB.out.size _).trans (HB2.out.mono (by have := HB.out.size; simp; omega))⟩
        case measure => simp [intOf]; omega
    · have hk' : k = l.length := by omega
      have hrr : true = r := by rw [← Hq.out, hk', List.drop_length]; rfl
      subst hrr
      clear hk'
      go_wp2
      go_ret
      exact ⟨rfl, HB.out⟩

/-- What checkTypes answers of levels. -/
def tcode (st : List (List Ty × Int)) : Int := if stAll (Ty.alls tyOk) st = false then 2 else if 200 < stDeep Ty.deeps st then 4 else 0

def nextTs (st : List (List Ty × Int)) (l : List Ty) (d : Int) (e : Ty) : List (List Ty × Int) := pushL (pushL st l d) e.args (d + 1)

theorem nextTs_size (st : List (List Ty × Int)) (l : List Ty) (d : Int) (e : Ty) : 1 + stSize Ty.sizes (nextTs st l d e) = stSize Ty.sizes (st ++ [(e :: l, d)]) := by
  unfold nextTs
  rw [stSize_push _ (by simp [Ty.sizes]), stSize_push _ (by simp [Ty.sizes]), stSize_snoc]
  simp only [Ty.sizes]
  rw [Ty.size_eq]
  omega
theorem nextTs_all (p : Ty → Bool) (st : List (List Ty × Int)) (l : List Ty) (d : Int) (e : Ty) : stAll (Ty.alls p) (st ++ [(e :: l, d)]) = (p e && stAll (Ty.alls p) (nextTs st l d e)) := by
  unfold nextTs
  rw [stAll_push _ (by simp [Ty.alls]), stAll_push _ (by simp [Ty.alls]), stAll_snoc]
  simp only [Ty.alls]
  rw [Ty.all_eq]
  cases p e <;> cases stAll (Ty.alls p) st <;> cases Ty.alls p l <;> cases Ty.alls p e.args <;> rfl
theorem Ty.deeps_pos (l : List Ty) (h : l ≠ []) : 1 ≤ Ty.deeps l := by
  cases l with
  | nil => exact absurd rfl h
  | cons a r => simp only [Ty.deeps]; have := Ty.deep_eq a; omega
theorem nextTs_deep (st : List (List Ty × Int)) (l : List Ty) (d : Int) (e : Ty) (hd : 1 ≤ d) : max d (stDeep Ty.deeps (nextTs st l d e)) = stDeep Ty.deeps (st ++ [(e :: l, d)]) := by
  unfold nextTs
  rw [stDeep_push _ _ _ _ (by omega), stDeep_push _ _ _ _ hd, stDeep_snoc _ _ _ (by simp only []; omega)]
  simp only [Ty.deeps]
  rw [Ty.deep_eq]
  have := stDeep_nonneg Ty.deeps st
  have g1 : e.args ≠ [] → 1 ≤ Ty.deeps e.args := Ty.deeps_pos _
  have g2 : l ≠ [] → 1 ≤ Ty.deeps l := Ty.deeps_pos _
  by_cases h1 : e.args = [] <;> by_cases h2 : l = [] <;> simp only [h1, h2, ↓reduceIte, Ty.deeps, ne_eq, not_true, not_false_iff, forall_const, false_implies] at g1 g2 ⊢ <;> omega
theorem nextTs_ok {N : Nat} {st : List (List Ty × Int)} {l : List Ty} {d : Int} {e : Ty} (h : stOk Ty.sizes N (st ++ [(e :: l, d)])) : stOk Ty.sizes N (nextTs st l d e) := by
  obtain ⟨h1, _, h2, h3⟩ := h.snoc
  simp only [Ty.sizes] at h2 h3
  have := Ty.size_eq e
  exact (h1.push (fun _ => ⟨h2, by omega⟩)).push (fun _ => ⟨by omega, by omega⟩)

theorem WalkT.form {w : World} {S : Nat → Prop} {g : Nat} {v : Value} {st : List (List Ty × Int)} (h : WalkT w S g v st) : ∃ A c, v = .slice A st.length c ∧ w.cell? ⟨g, 0, none⟩ = some v := by
  obtain ⟨xs, hx, _⟩ := h.raw
  obtain ⟨A, c, hv, _⟩ := own_form hx.own
  exact ⟨A, c, hv, hx.box.cell⟩
theorem RowT.form {w : World} {S : Nat → Prop} {v : Value} {st : List (List Ty × Int)} (h : RowT w S v st) : ∃ A c, v = .slice A st.length c := by
  obtain ⟨xs, hx, _⟩ := h.raw
  obtain ⟨A, c, hv, _⟩ := own_form hx
  exact ⟨A, c, hv⟩

set_option maxRecDepth 100000 in
set_option maxHeartbeats 2000000 in
theorem checkTypes_r (w : World) (S : Nat → Prop) (g : Nat) (v : Value) (st0 : List (List Ty × Int)) (N : Nat) (R : Int) (hw0 : WalkT w S g v st0) (hok0 : stOk Ty.sizes (2 * N + 1) st0) (hs0 : stSize Ty.sizes st0 ≤ N) (hN : N ≤ 1000000) (hR : tcode st0 = R) :
    Calls Try.prog 34 #[.pointer (some ⟨g, 0, none⟩)] w fun e w' => e = .returned (.int .i64 R) ∧ ∃ v', Step w w' g v v' := by
  have HW0 := Lib.hid hw0
  have HOk0 := Lib.hid hok0
  have HR := Lib.hid hR
  clear hw0 hok0 hR
  go_enter Try.func34, Try.ntmps34
  go_wp2
  go_loopg [3, 4, 5] (stSize Ty.sizes st0) (fun k s _ _ wr => ∃ (a : Int) (v' : Value) (st : List (List Ty × Int)), s = .int .i64 a ∧ WalkT wr S g v' st ∧ Step w wr g v v' ∧ stSize Ty.sizes st ≤ k ∧ k ≤ N ∧ stOk Ty.sizes (2 * N + 1) st ∧
    (if stAll (Ty.alls tyOk) st = false then 2 else if a = 4 ∨ 200 < stDeep Ty.deeps st then 4 else 0) = R ∧ (a = 0 ∨ a = 4))
  case atStart => exact ⟨0, v, st0, rfl, HW0.out, Step.refl _ _ _, Nat.le_refl _, hs0, HOk0.out, by rw [← HR.out]; simp [tcode], .inl rfl⟩
  case round =>
    obtain ⟨a, v1, st, rfl, hw, hs, hsum, hkN, hok, hcode, ha⟩ := hrel
    have HW := Lib.hid hw
    have HS := Lib.hid hs
    have HOk := Lib.hid hok
    have HC := Lib.hid hcode
    have HA := Lib.hid ha
    have HSum := Lib.hid hsum
    clear hw hs hok hcode ha hsum
    rcases snoc_cases st with rfl | ⟨st, ⟨l, d⟩, rfl⟩
    · go_wp2_with fail
      refine (moreT _ S g v1 [] false rfl HW.out).mono ?_
      rintro e w2 ⟨rfl, rfl⟩
      go_wp2
      go_ret
      refine ⟨ret_int ?_, v1, HS.out⟩
      have := HC.out
      simp only [stAll, stDeep, Bool.true_eq_false, if_false] at this
      rw [← this]
      rcases HA.out with h | h <;> simp [h]
    · go_wp2_with fail
      refine (moreT _ S g v1 _ true (by simp) HW.out).mono ?_
      rintro e w2 ⟨rfl, rfl⟩
      obtain ⟨e1, r, rfl⟩ := List.exists_cons_of_ne_nil (HOk.out.snoc).2.1
      have hd0 : 1 ≤ d := HOk.out.snoc.2.2.1
      have hd9 : d ≤ 2000001 := by have := HOk.out.snoc.2.2.2; omega
      have hst : st.length ≤ 1000000 := by
        have h1 := HOk.out.snoc.1.length Ty.sizes_pos
        have h2 := HSum.out
        rw [stSize_snoc] at h2
        omega
      have hd00 : 0 ≤ d := by omega
      go_wp2_with fail
      refine (nextT _ S g v1 st e1 r d HW.out (by omega) hd00 (by omega)).mono ?_
      rintro e w3 ⟨b, o, rfl, hp, v3, hw3, hs3⟩
      obtain ⟨xA, yA, xL, yL, f0, f1, f2, f3, f4, hv⟩ := hp.val
      have hall := nextTs_all tyOk st r d e1
      have hdeep := nextTs_deep st r d e1 hd0
      have hsz := nextTs_size st r d e1
      have hw3' : WalkT w3 S g v3 (nextTs st r d e1) := hw3
      have HW3 := Lib.hid hw3'
      have HS3 := Lib.hid hs3
      have HV := Lib.hid hv
      have HAll := Lib.hid hall
      have HDeep := Lib.hid hdeep
      have HSz := Lib.hid hsz
      clear hp hw3 hw3' hs3 hv hall hdeep hsz hd0 hst
      rcases hn : tyOk e1 with _ | _
      · have hRR : 2 = R := by
          have h1 := HAll.out
          rw [hn, Bool.false_and] at h1
          have h2 := HC.out
          rw [if_pos h1] at h2
          exact h2
        have HN := Lib.hid hn
        subst hRR
        clear hn
        go_wp2_with fail
        refine (typeMayBe_r _ S e1 _ false HW3.out.old HV.out HN.out).mono ?_
        rintro e w4 ⟨rfl, hb4⟩
        have HB4 := Lib.hid hb4
        clear hb4
        go_wp2
        go_ret
        exact ⟨rfl, v3, (HS.out.trans HS3.out).trans ⟨Keeps.of_below0 HB4.out, .inl rfl⟩⟩
      · have HN := Lib.hid hn
        have hcode2 : ∀ a' : Int, (a' = 0 ∨ a' = 4) → (a' = 4 ↔ a = 4 ∨ 200 < d) → (if stAll (Ty.alls tyOk) (nextTs st r d e1) = false then 2 else if a' = 4 ∨ 200 < stDeep Ty.deeps (nextTs st r d e1) then 4 else 0) = R := by
          intro a' h0 h1
          rw [← HC.out, HAll.out, hn, Bool.true_and]
          by_cases h : stAll (Ty.alls tyOk) (nextTs st r d e1) = false
          · rw [if_pos h, if_pos h]
          · rw [if_neg h, if_neg h]
            have h2 : (a' = 4 ∨ 200 < stDeep Ty.deeps (nextTs st r d e1)) ↔ (a = 4 ∨ 200 < stDeep Ty.deeps (st ++ [(e1 :: r, d)])) := by
              rw [← HDeep.out, h1]
              constructor
              · rintro ((h | h) | h)
                · exact .inl h
                · right; omega
                · right; omega
              · rintro (h | h)
                · exact .inl (.inl h)
                · by_cases hd : 200 < d
                  · exact .inl (.inr hd)
                  · right; omega
            by_cases h3 : (a = 4 ∨ 200 < stDeep Ty.deeps (st ++ [(e1 :: r, d)]))
            · rw [if_pos h3, if_pos (h2.2 h3)]
            · rw [if_neg h3, if_neg (fun h => h3 (h2.1 h))]
        have HC2 := Lib.hid hcode2
        clear hn hcode2
        by_cases hd200 : 200 < d
        all_goals
          go_wp2_with fail
          refine (typeMayBe_r _ S e1 _ true HW3.out.old HV.out HN.out).mono ?_
          rintro e w4 ⟨rfl, hb4⟩
          have HB4 := Lib.hid hb4
          clear hb4
          go_wp2
          go_roundg (gk - 1)
          case measure => have h1 := HSum.out; have h2 := HSz.out; omega
          case rel =>
            have hw4 := HW3.out.keep (T := fun _ => False) (Keeps.of_below0 HB4.out) (fun _ _ h => h.elim)
            have hs4 : Step w w4 g v v3 := (HS.out.trans HS3.out).trans ⟨Keeps.of_below0 HB4.out, .inl rfl⟩
            first
              | exact ⟨4, v3, nextTs st r d e1, rfl, hw4, hs4, by have h1 := HSum.out; have h2 := HSz.out; omega, by omega, nextTs_ok HOk.out, HC2.out 4 (.inr rfl) ⟨fun _ => .inr hd200, fun _ => rfl⟩, .inr rfl⟩
              | exact ⟨a, v3, nextTs st r d e1, rfl, hw4, hs4, by have h1 := HSum.out; have h2 := HSz.out; omega, by omega, nextTs_ok HOk.out, HC2.out a HA.out ⟨fun h => .inl h, fun h => h.resolve_right (by omega)⟩, HA.out⟩

set_option maxRecDepth 100000 in
set_option maxHeartbeats 1000000 in
theorem checkType_any (w : World) (S : Nat → Prop) (e0 : Ty) (ev : Value) (hS : ∀ k, S k → k < w.heap.size) (he : TyV w S e0 ev) (hN : e0.size ≤ 1000000) :
    Calls Try.prog 25 #[ev] w fun e w' => e = .returned (.int .i64 (tcode [([e0], 1)])) ∧ Below w.heap.size w w' := by
  have HE := Lib.hid he
  obtain ⟨R, hR⟩ : ∃ R, tcode [([e0], 1)] = R := ⟨_, rfl⟩
  rw [hR]
  have HR := Lib.hid hR
  have hok : stOk Ty.sizes (2 * e0.size + 1) [([e0], 1)] := by
    intro x hx
    simp at hx
    subst hx
    exact ⟨by simp, by simp, by simp only [Ty.sizes]; omega⟩
  have HOk := Lib.hid hok
  clear hR hok
  obtain ⟨fk, fs, fargs, flabels, fop⟩ := e0
  unfold TyV at he
  obtain ⟨aA, cA, aL, cL, rfl, _⟩ := he
  go_enter Try.func25, Try.ntmps25
  go_wp2_with fail
  refine (startT _ S _ _ (fun k hk => by have := hS k hk; simp; omega) (TyV.keep (fun k hk => ⟨hk, Below.heap_alloc _ _ _ (hS k hk)⟩) _ _ HE.out)).mono ?_
  rintro e w1 ⟨v1, S1, rfl, hS1, hS2, hr1, hb1, ho1⟩
  obtain ⟨A1, c1, rfl⟩ := hr1.form
  have hb : Below w.heap.size w w1 := ((Below.refl _ w).alloc (Nat.le_refl _) _).trans (hb1.mono (by simp))
  have ho : ∀ k, Value.ownBlock (.slice A1 [([Ty.mk fk fs fargs flabels fop], (1 : Int))].length c1) = some k → w.heap.size ≤ k := fun k hk => by have := ho1 k hk; simp at this; omega
  have HRow := Lib.hid hr1
  have HB := Lib.hid hb
  have HO := Lib.hid ho
  clear hr1 hb1 ho1 hS1 hS2 hb ho
  go_wp2_with fail
  refine (checkTypes_r _ S1 _ _ _ _ R HRow.out.boxed HOk.out (by simp [stSize, Ty.sizes]) hN HR.out).mono ?_
  rintro e w2 ⟨rfl, v2, hs2⟩
  have HS2 := Lib.hid hs2
  clear hs2
  go_wp2
  go_ret
  refine ⟨rfl, ?_⟩
  have h1 : Below w.heap.size w (w1.alloc (.cells #[.slice A1 [([Ty.mk fk fs fargs flabels fop], (1 : Int))].length c1] 58)) := HB.out.alloc HB.out.size _
  exact h1.trans (HS2.out.below ⟨HB.out.size, HO.out⟩ h1.size)

theorem row_row_ne {w : World} {b1 b2 : Nat} {e1 e2 : TypeId} {s1 s2 n1 n2 : Nat} {v1 v2 : Value} {x1 x2 : List Value} (h1 : w.ownsRow b1 e1 s1 v1 n1 x1) (h2 : w.ownsRow b2 e2 s2 v2 n2 x2) (hne : e1 ≠ e2) (k : Nat) (hk : v1.ownBlock = some k) : v2.ownBlock ≠ some k := by
  intro hk2
  rcases h1.2 with ⟨rfl, _⟩ | ⟨g, cap, cur, rfl, _, hg, _⟩
  · simp [Value.ownBlock] at hk
  · rcases h2.2 with ⟨rfl, _⟩ | ⟨g', cap', cur', rfl, _, hg', _⟩
    · simp [Value.ownBlock] at hk2
    · simp [Value.ownBlock] at hk hk2
      subst hk
      subst hk2
      rw [hg] at hg'
      injection hg' with hg'
      injection hg' with _ ht
      exact hne ht
theorem box_box_ne {w : World} {g1 g2 : Nat} {t1 t2 : TypeId} {v1 v2 : Value} (h1 : Box w g1 t1 v1) (h2 : Box w g2 t2 v2) (hne : t1 ≠ t2) : g1 ≠ g2 := by
  rintro rfl
  unfold Box at h1 h2
  rw [h1] at h2
  injection h2 with h2
  injection h2 with _ ht
  exact hne ht

/-- A walk over expressions and one over types have no block in common. -/
theorem apart_ET {w : World} {S S' : Nat → Prop} {g g' : Nat} {v v' : Value} {st : List (List Ex × Int)} {st' : List (List Ty × Int)} (h : WalkE w S g v st) (h' : WalkT w S' g' v' st') : ∀ k, Own g v k → ¬ Own g' v' k := by
  obtain ⟨xs, hx, _⟩ := h.raw
  obtain ⟨ys, hy, _⟩ := h'.raw
  intro k hk hk'
  rcases hk with rfl | hk
  · rcases hk' with e | e
    · exact box_box_ne hx.box hy.box (by decide) e
    · exact own_box_ne hy.own hx.box (by decide) e
  · rcases hk' with rfl | e
    · exact own_box_ne hx.own hy.box (by decide) hk
    · exact row_row_ne hx.own hy.own (by decide) k hk e

theorem WalkT.over {w w' : World} {S : Nat → Prop} {g g' : Nat} {v v' v2 : Value} {st : List (List Ex × Int)} {st' : List (List Ty × Int)} (h : WalkE w S g v st) (h' : WalkT w S g' v' st') (hs : Step w w' g v v2) : WalkT w' S g' v' st' :=
  h'.keep hs.keeps (fun k _ hk => ⟨fun e => h.apart k e hk, apart_ET h h' k hk⟩)
theorem WalkE.over {w w' : World} {S : Nat → Prop} {g g' : Nat} {v v' v2 : Value} {st : List (List Ex × Int)} {st' : List (List Ty × Int)} (h : WalkE w S g v st) (h' : WalkT w S g' v' st') (hs : Step w w' g' v' v2) : WalkE w' S g v st :=
  h.keep hs.keeps (fun k _ hk => ⟨fun e => h'.apart k e hk, fun e => apart_ET h h' k e hk⟩)

def okNode (e : Ex) : Bool := exOk e && e.mems.all mmOk

/-- What Check answers. -/
def checkCode (e : Ex) : Int :=
  if e.all okNode = false then 2 else if e.tall tyOk = false then 2 else if 200 < e.tdeep then 4 else if 200 < e.deep then 4 else 0

def nextTT (T : List (List Ty × Int)) (e : Ex) : List (List Ty × Int) := pushTs (pushL T e.types 1) e.mems

theorem next_tsize (T : List (List Ty × Int)) (st : List (List Ex × Int)) (l : List Ex) (d : Int) (e : Ex) : stSize Ty.sizes (nextTT T e) + stSize Ex.tsizes (nextSt st l d e) = stSize Ty.sizes T + stSize Ex.tsizes (st ++ [(e :: l, d)]) := by
  unfold nextTT nextSt
  rw [pushMs_tsize, stSize_push Ty.sizes (by simp [Ty.sizes]), stSize_push Ex.tsizes (by simp [Ex.tsizes]), stSize_push Ex.tsizes (by simp [Ex.tsizes]), stSize_snoc]
  simp only [Ex.tsizes]
  rw [Ex.tsize_eq]
  omega
theorem next_tall (p : Ty → Bool) (T : List (List Ty × Int)) (st : List (List Ex × Int)) (l : List Ex) (d : Int) (e : Ex) : (stAll (Ty.alls p) (nextTT T e) && stAll (Ex.talls p) (nextSt st l d e)) = (stAll (Ty.alls p) T && stAll (Ex.talls p) (st ++ [(e :: l, d)])) := by
  unfold nextTT nextSt
  rw [pushMs_tall, stAll_push (Ty.alls p) (by simp [Ty.alls]), stAll_push (Ex.talls p) (by simp [Ex.talls]), stAll_push (Ex.talls p) (by simp [Ex.talls]), stAll_snoc]
  simp only [Ex.talls]
  rw [Ex.tall_eq]
  cases stAll (Ty.alls p) T <;> cases stAll (Ex.talls p) st <;> cases Ty.alls p e.types <;> cases Ex.talls p e.args <;> cases Mm.talls p e.mems <;> cases Ex.talls p l <;> rfl
theorem next_tdeep (T : List (List Ty × Int)) (st : List (List Ex × Int)) (l : List Ex) (d : Int) (e : Ex) : max (stDeep Ty.deeps (nextTT T e)) (stMax Ex.tdeeps (nextSt st l d e)) = max (stDeep Ty.deeps T) (stMax Ex.tdeeps (st ++ [(e :: l, d)])) := by
  unfold nextTT nextSt
  rw [pushMs_tdeep, stDeep_push1, stMax_push Ex.tdeeps (by simp [Ex.tdeeps]), stMax_push Ex.tdeeps (by simp [Ex.tdeeps]), stMax_snoc]
  simp only [Ex.tdeeps]
  rw [Ex.tdeep_eq]
  omega
theorem nextSt_all (p : Ex → Bool) (st : List (List Ex × Int)) (l : List Ex) (d : Int) (e : Ex) : stAll (Ex.alls p) (st ++ [(e :: l, d)]) = (p e && stAll (Ex.alls p) (nextSt st l d e)) := by
  unfold nextSt
  rw [pushMs_all, stAll_push (Ex.alls p) (by simp [Ex.alls]), stAll_push (Ex.alls p) (by simp [Ex.alls]), stAll_snoc]
  simp only [Ex.alls]
  rw [Ex.all_eq]
  cases p e <;> cases stAll (Ex.alls p) st <;> cases Ex.alls p e.args <;> cases Mm.alls p e.mems <;> cases Ex.alls p l <;> rfl
theorem next_tok {N : Nat} {T : List (List Ty × Int)} {e : Ex} (h : stOk Ty.sizes (2 * N + 1) T) (hN : e.tsize ≤ N) : stOk Ty.sizes (2 * N + 1) (nextTT T e) := by
  have h1 := Ex.tsize_eq e
  refine pushTs_ok (h.push (fun _ => ⟨by omega, by omega⟩)) _ (fun m hm => ?_)
  have := Mm.tsizes_mem e.mems m hm
  omega
theorem nextTT_length (T : List (List Ty × Int)) (e : Ex) : (nextTT T e).length ≤ T.length + 1 + e.mems.length := by
  have h1 := pushTs_length (pushL T e.types 1) e.mems
  have h2 := pushL_length T e.types 1
  unfold nextTT
  omega

set_option maxRecDepth 100000 in
set_option maxHeartbeats 4000000 in
theorem check_any (w : World) (S : Nat → Prop) (e0 : Ex) (ev : Value) (hS : ∀ k, S k → k < w.heap.size) (he : ExV w S e0 ev) (hN : e0.size ≤ 1000000) (hTN : e0.tsize ≤ 1000000) :
    Calls Try.prog 12 #[ev] w fun e w' => e = .returned (.int .i64 (checkCode e0)) ∧ Below w.heap.size w w' := by
  have HE := Lib.hid he
  obtain ⟨R, hR⟩ : ∃ R, checkCode e0 = R := ⟨_, rfl⟩
  rw [hR]
  have HR := Lib.hid hR
  obtain ⟨N, hNe⟩ : ∃ N, N = e0.size := ⟨_, rfl⟩
  have HNe := Lib.hid hNe
  rw [← hNe] at hN
  obtain ⟨NT, hNTe⟩ : ∃ NT, NT = e0.tsize := ⟨_, rfl⟩
  have HNTe := Lib.hid hNTe
  rw [← hNTe] at hTN
  obtain ⟨E0, hE0⟩ : ∃ E0 : Ex, E0 = e0 := ⟨_, rfl⟩
  have HE0 := Lib.hid hE0
  clear hR hNe hNTe hE0
  obtain ⟨fk, fs, fn, fargs, fnames, ftypes, fmems⟩ := e0
  unfold ExV at he
  obtain ⟨aA, cA, aN, cN, aT, cT, aM, cM, rfl, _⟩ := he
  go_enter Try.func12, Try.ntmps12
  go_wp2_with fail
  refine (startE _ S _ _ (fun k hk => by have := hS k hk; simp; omega) (ExV.keep (fun k hk => ⟨hk, (((Below.refl _ w).alloc (Nat.le_refl _) _).alloc (by simp) _).block k (hS k hk)⟩) _ _ HE.out)).mono ?_
  rintro e w1 ⟨v1, S1, rfl, hS1, hS2, hr1, hb1, ho1⟩
  obtain ⟨A1, c1, rfl⟩ := hr1.form
  obtain ⟨wB, hwB⟩ : ∃ wB, wB = w.alloc (.cells #[.int .i64 fk, .string fs, .int .i64 fn, .slice aA fargs.length cA, .slice aN fnames.length cN, .slice aT ftypes.length cT, .slice aM fmems.length cM] 31) := ⟨_, rfl⟩
  have hBsz : wB.heap.size = w.heap.size + 1 := by rw [hwB]; simp
  have hwT0 : WalkT w1 S1 (w.heap.size + 1) (.slice none 0 0) [] := by
    refine ⟨⟨[], ⟨?_, World.ownsRow_nil _ _ _ _⟩, rfl⟩, ?_, hr1.old⟩
    · have h1 := Box.new wB 58 (.slice none 0 0)
      rw [hBsz] at h1
      rw [← hwB] at hb1
      exact (hb1.block _ (by simp; omega)).trans h1
    · intro k hk e
      rcases e with e | e
      · rcases hS2 k hk with h | h
        · have := hS k h; omega
        · rw [← hwB] at h; simp [hBsz] at h; omega
      · simp [Value.ownBlock] at e
  rw [← hwB] at hb1 ho1 hS2
  obtain ⟨hw, hf, hb⟩ := begun hr1 ((Below.refl wB.heap.size wB).alloc (Nat.le_refl _) _) hb1 ho1
  have hwT : WalkT (w1.alloc (.cells #[.slice A1 [([Ex.mk fk fs fn fargs fnames ftypes fmems], (1 : Int))].length c1] 61)) S1 (w.heap.size + 1) (.slice none 0 0) [] :=
    hwT0.keep (T := fun _ => False) ((Keeps.refl _ w1).alloc _) (fun _ _ h => h.elim)
  have hfT : Fresh wB.heap.size (w.heap.size + 1) (.slice none 0 0) := ⟨by omega, fun k hk => by simp [Value.ownBlock] at hk⟩
  have HW := Lib.hid hw
  have HF := Lib.hid hf
  have HB := Lib.hid hb
  have HWT := Lib.hid hwT
  have HFT := Lib.hid hfT
  have HwB := Lib.hid hwB
  have HBsz := Lib.hid hBsz
  clear hw hf hb hr1 hb1 ho1 hS1 hS2 hwT0 hwT hfT hwB hBsz
  go_wp2
  go_loopg [4, 5, 6] N (fun k p _ _ wr => ∃ (g : Nat) (v : Value) (st : List (List Ex × Int)) (vT : Value) (T : List (List Ty × Int)), p = .pointer (some ⟨g, 0, none⟩) ∧ WalkE wr S1 g v st ∧ Fresh wB.heap.size g v ∧ WalkT wr S1 (w.heap.size + 1) vT T ∧ Fresh wB.heap.size (w.heap.size + 1) vT ∧ Below wB.heap.size wB wr ∧
    (stSize Ex.sizes st ≤ k ∧ k ≤ N ∧ stOk Ex.sizes (2 * N + 1) st ∧ stOk Ty.sizes (2 * NT + 1) T ∧ stSize Ty.sizes T + stSize Ex.tsizes st = NT) ∧
    (stAll (Ex.alls okNode) st = E0.all okNode ∧ (stAll (Ty.alls tyOk) T && stAll (Ex.talls tyOk) st) = E0.tall tyOk ∧ max (stDeep Ty.deeps T) (stMax Ex.tdeeps st) = E0.tdeep))
  case atStart =>
    refine ⟨w1.heap.size, _, [([Ex.mk fk fs fn fargs fnames ftypes fmems], 1)], .slice none 0 0, [], rfl, HW.out, HF.out, HWT.out, HFT.out, HB.out, ⟨?_, Nat.le_refl _, ?_, ?_, ?_⟩, ?_, ?_, ?_⟩
    · rw [HNe.out]; simp [stSize, Ex.sizes]
    · intro x hx
      simp at hx
      subst hx
      exact ⟨by simp, by simp, by simp only [Ex.sizes]; rw [HNe.out]; omega⟩
    · intro x hx; simp at hx
    · rw [HNTe.out]; simp [stSize, Ex.tsizes]
    · rw [HE0.out]; simp [stAll, Ex.alls]
    · rw [HE0.out]; simp [stAll, Ex.talls]
    · rw [HE0.out]; simp [stDeep, stMax, Ex.tdeeps]
  case round =>
    obtain ⟨g, v, st, vT, T, rfl, hw, hf, hwT, hfT, hb, hnum, hsem⟩ := hrel
    have HW1 := Lib.hid hw
    have HF1 := Lib.hid hf
    have HWT1 := Lib.hid hwT
    have HFT1 := Lib.hid hfT
    have HB1 := Lib.hid hb
    have HNum := Lib.hid hnum
    have HSem := Lib.hid hsem
    clear hw hf hb hwT hfT hnum hsem HW HF HB HWT HFT
    rcases snoc_cases st with rfl | ⟨st, ⟨l, d⟩, rfl⟩
    · go_wp2_with fail
      refine (moreE _ S1 g v [] false rfl HW1.out).mono ?_
      rintro e w2 ⟨rfl, rfl⟩
      have hn1 := HNum.out
      have hs1 := HSem.out
      simp only [stSize, stAll, stMax, Bool.and_true, Nat.add_zero] at hn1 hs1
      have hTD : stDeep Ty.deeps T = E0.tdeep := by have := hs1.2.2; have h2 := stDeep_nonneg Ty.deeps T; omega
      have hmay : E0.all okNode = true := hs1.1.symm
      have htc : tcode T = if E0.tall tyOk = false then 2 else if 200 < E0.tdeep then 4 else 0 := by
        unfold tcode
        rw [hs1.2.1, hTD]
        by_cases h : E0.tall tyOk = false
        · rw [if_pos h, if_pos h]
        · rw [if_neg h, if_neg h]
          by_cases h2 : 200 < E0.tdeep
          · rw [if_pos h2, if_pos (by omega)]
          · rw [if_neg h2, if_neg (by omega)]
      have hRR : R = if E0.tall tyOk = false then 2 else if 200 < E0.tdeep then 4 else if 200 < E0.deep then 4 else 0 := by
        rw [← HR.out, ← HE0.out]
        unfold checkCode
        rw [if_neg (by rw [hmay]; decide)]
      have HRR := Lib.hid hRR
      obtain ⟨C, hC⟩ : ∃ C, tcode T = C := ⟨_, rfl⟩
      rw [hC] at htc
      have HTC := Lib.hid htc
      have HC := Lib.hid hC
      have hok : stOk Ty.sizes (2 * NT + 1) T := hn1.2.2.2.1
      have hsz : stSize Ty.sizes T ≤ NT := by omega
      have HOk := Lib.hid hok
      clear hn1 hs1 hTD hmay hRR htc hC hok
      by_cases hc0 : C = 0
      · subst hc0
        have hblk : ∀ w3 : World, Below wB.heap.size wB w3 → w3.heap[w.heap.size]? = some (.cells #[.int .i64 fk, .string fs, .int .i64 fn, .slice aA fargs.length cA, .slice aN fnames.length cN, .slice aT ftypes.length cT, .slice aM fmems.length cM] 31 (0, 0)) := by
          intro w3 h3
          rw [h3.block _ (by rw [HBsz.out]; omega), HwB.out]
          exact heap_alloc_new w _
        have HBlk := Lib.hid hblk
        clear hblk
        go_wp2_with fail
        refine (checkTypes_r _ S1 _ vT T NT 0 HWT1.out HOk.out hsz hTN HC.out).mono ?_
        rintro e w3 ⟨rfl, vT3, hs3⟩
        have hb3 : Below wB.heap.size wB w3 := HB1.out.trans (hs3.below HFT1.out HB1.out.size)
        have hcs := fun i => cell_of_row w3 w.heap.size i _ _ _ (HBlk.out w3 hb3)
        have d0 : w3.cell? ⟨w.heap.size, 0, none⟩ = some (.int .i64 fk) := hcs 0
        have d1 : w3.cell? ⟨w.heap.size, 1, none⟩ = some (.string fs) := hcs 1
        have d2 : w3.cell? ⟨w.heap.size, 2, none⟩ = some (.int .i64 fn) := hcs 2
        have d3 : w3.cell? ⟨w.heap.size, 3, none⟩ = some (.slice aA fargs.length cA) := hcs 3
        have d4 : w3.cell? ⟨w.heap.size, 4, none⟩ = some (.slice aN fnames.length cN) := hcs 4
        have d5 : w3.cell? ⟨w.heap.size, 5, none⟩ = some (.slice aT ftypes.length cT) := hcs 5
        have d6 : w3.cell? ⟨w.heap.size, 6, none⟩ = some (.slice aM fmems.length cM) := hcs 6
        have hbw : Below w.heap.size w w3 := ((Below.refl _ w).alloc (Nat.le_refl _) _).trans (HwB.out ▸ hb3.mono (by rw [HBsz.out]; omega))
        have HBW := Lib.hid hbw
        obtain ⟨D, hD⟩ : ∃ D, D = E0.deep := ⟨_, rfl⟩
        have HD := Lib.hid hD
        clear hcs hs3 hb3 hbw hD
        have hfin : R = if 200 < D then 4 else 0 := by
          rw [HRR.out, HD.out]
          have := HTC.out
          by_cases h : E0.tall tyOk = false
          · rw [if_pos h] at this; exact absurd this (by decide)
          · rw [if_neg h] at this ⊢
            by_cases h2 : 200 < E0.tdeep
            · rw [if_pos h2] at this; exact absurd this (by decide)
            · rw [if_neg h2]
        have HFin := Lib.hid hfin
        clear hfin
        by_cases hd : 200 < D
        all_goals
          go_wp2_with fail
          refine (deep_any _ S (Ex.mk fk fs fn fargs fnames ftypes fmems) _ (fun k hk => Nat.lt_of_lt_of_le (hS k hk) HBW.out.size) (ExV.keep (fun k hk => ⟨hk, HBW.out.block k (hS k hk)⟩) _ _ HE.out) (by rw [← HNe.out]; exact hN)).mono ?_
          rw [← HE0.out, ← HD.out]
          rintro e w4 ⟨rfl, hb4⟩
          have HB4 := Lib.hid hb4
          clear hb4
          go_wp2
          go_ret
          exact ⟨ret_int (by rw [HFin.out]; simp [hd]), HBW.out.trans (HB4.out.mono HBW.out.size)⟩
      · have hne : (C != 0) = true := by rw [bne_iff_ne]; exact hc0
        have hCR : C = R := by
          rw [HRR.out, HTC.out]
          have := HTC.out
          by_cases h : E0.tall tyOk = false
          · rw [if_pos h, if_pos h]
          · rw [if_neg h] at this ⊢
            rw [if_neg h]
            by_cases h2 : 200 < E0.tdeep
            · rw [if_pos h2, if_pos h2]
            · rw [if_neg h2] at this; exact absurd this hc0
        have HCR := Lib.hid hCR
        clear hc0 hCR
        go_wp2_with fail
        refine (checkTypes_r _ S1 _ vT T NT C HWT1.out HOk.out hsz hTN HC.out).mono ?_
        rintro e w3 ⟨rfl, vT3, hs3⟩
        have hb3 : Below wB.heap.size wB w3 := HB1.out.trans (hs3.below HFT1.out HB1.out.size)
        have hbw : Below w.heap.size w w3 := ((Below.refl _ w).alloc (Nat.le_refl _) _).trans (HwB.out ▸ hb3.mono (by rw [HBsz.out]; omega))
        have HBW := Lib.hid hbw
        clear hs3 hb3 hbw
        go_wp2
        go_ret
        exact ⟨ret_int HCR.out, HBW.out⟩
    · go_wp2_with fail
      refine (moreE _ S1 g v _ true (by simp) HW1.out).mono ?_
      rintro e w2 ⟨rfl, rfl⟩
      obtain ⟨e1, r, rfl⟩ := List.exists_cons_of_ne_nil (HNum.out.2.2.1.snoc).2.1
      obtain ⟨n1, n2, n3⟩ := nextSt_bound HNum.out.2.2.1 (by have := HNum.out; omega) hN
      go_wp2_with fail
      refine (nextE _ S1 g v st e1 r d HW1.out n1 (by omega) n3).mono ?_
      rintro e w3 ⟨b, o, rfl, hp, v3, hw3, hs3⟩
      obtain ⟨A3, c3, rfl, hc3⟩ := hw3.form
      obtain ⟨xA, yA, xN, yN, xT, yT, xM, yM, f0, f1, f2, f3, f4, f5, f6, hval, hml, hmc, hmm⟩ := hp.val
      have hw3' : WalkE w3 S1 g _ (nextSt st r d e1) := hw3
      have HW3 := Lib.hid hw3'
      have HWT3 := Lib.hid (WalkT.over HW1.out HWT1.out hs3)
      have HB3 := Lib.hid (HB1.out.trans (hs3.below HF1.out HB1.out.size) : Below wB.heap.size wB w3)
      have HF3 := Lib.hid (HF1.out.step hs3 HB1.out.size)
      have HV := Lib.hid hval
      have HMM := Lib.hid hmm
      have HP := Lib.hid hp
      have HAll := Lib.hid (nextSt_all okNode st r d e1)
      have HTall := Lib.hid (next_tall tyOk T st r d e1)
      have HTsz := Lib.hid (next_tsize T st r d e1)
      have HTdp := Lib.hid (next_tdeep T st r d e1)
      have HSz := Lib.hid (nextSt_size st r d e1)
      clear hw3 hw3' hs3 hval hmm hp hc3
      have hfalse : okNode e1 = false → 2 = R := by
        intro h
        have h1 := HAll.out
        rw [h, Bool.false_and] at h1
        rw [← HR.out, ← HE0.out]
        unfold checkCode
        rw [if_pos (by rw [← HSem.out.1]; exact h1)]
      have HFalse := Lib.hid hfalse
      clear hfalse
      have hwbw : ∀ w5 : World, Below wB.heap.size wB w5 → Below w.heap.size w w5 := fun w5 h5 => ((Below.refl _ w).alloc (Nat.le_refl _) _).trans (HwB.out ▸ h5.mono (by rw [HBsz.out]; omega))
      have HWBW := Lib.hid hwbw
      clear hwbw
      rcases hn : exOk e1 with _ | _
      · have h2 := HFalse.out (by unfold okNode; rw [hn]; rfl)
        subst h2
        have HN := Lib.hid hn
        clear hn
        go_wp2_with fail
        refine (exprMayBe_r _ S1 e1 _ false HW3.out.old HV.out HN.out).mono ?_
        rintro e w4 ⟨rfl, hb4⟩
        have HB4 := Lib.hid hb4
        clear hb4
        go_wp2
        go_ret
        exact ⟨rfl, HWBW.out _ (HB3.out.trans (HB4.out.mono HB3.out.size))⟩
      · have HN := Lib.hid hn
        clear hn
        go_wp2_with fail
        refine (exprMayBe_r _ S1 e1 _ true HW3.out.old HV.out HN.out).mono ?_
        rintro e w4 ⟨rfl, hb4⟩
        have hsame4 : ∀ k, S1 k → S1 k ∧ w4.heap[k]? = w3.heap[k]? := fun k hk => ⟨hk, hb4.block k (HW3.out.old k hk)⟩
        have hb : S1 b := HP.out.1
        have g6 := (World.cell?_of_block (a := ⟨b, o + 6, none⟩) (hsame4 b hb).2).trans f6
        have HMM4 := Lib.hid (MmsO.keep hsame4 _ _ HMM.out)
        have HP4 := Lib.hid (HP.out.keep hsame4)
        have HB4 := Lib.hid (HB3.out.trans (hb4.mono HB3.out.size) : Below wB.heap.size wB w4)
        have HW4 := Lib.hid (HW3.out.keep (T := fun _ => False) (Keeps.of_below0 hb4) (fun _ _ h => h.elim))
        have HWT4 := Lib.hid (HWT3.out.keep (T := fun _ => False) (Keeps.of_below0 hb4) (fun _ _ h => h.elim))
        clear hb4 hsame4 hb f0 f1 f2 f3 f4 f5 f6
        rcases hm : e1.mems.all mmOk with _ | _
        · have h2 := HFalse.out (by unfold okNode; rw [HN.out, hm]; rfl)
          subst h2
          have HM := Lib.hid hm
          clear hm
          go_wp2_with fail
          refine (membersMayBe_r _ S1 e1.mems xM yM false HW4.out.old HMM4.out hml hmc HM.out).mono ?_
          rintro e w5 ⟨rfl, hb5⟩
          have HB5 := Lib.hid hb5
          clear hb5
          go_wp2
          go_ret
          exact ⟨rfl, HWBW.out _ (HB4.out.trans (HB5.out.mono HB4.out.size))⟩
        · have hok1 : okNode e1 = true := by unfold okNode; rw [HN.out, hm]; rfl
          have HOk1 := Lib.hid hok1
          have HM := Lib.hid hm
          clear hm hok1
          go_wp2_with fail
          refine (membersMayBe_r _ S1 e1.mems xM yM true HW4.out.old HMM4.out hml hmc HM.out).mono ?_
          rintro e w5 ⟨rfl, hb5⟩
          have hsame5 : ∀ k, S1 k → S1 k ∧ w5.heap[k]? = w4.heap[k]? := fun k hk => ⟨hk, hb5.block k (HW4.out.old k hk)⟩
          have HP5 := Lib.hid (HP4.out.keep hsame5)
          have HB5 := Lib.hid (HB4.out.trans (hb5.mono HB4.out.size) : Below wB.heap.size wB w5)
          have HW5 := Lib.hid (HW4.out.keep (T := fun _ => False) (Keeps.of_below0 hb5) (fun _ _ h => h.elim))
          have HWT5 := Lib.hid (HWT4.out.keep (T := fun _ => False) (Keeps.of_below0 hb5) (fun _ _ h => h.elim))
          clear hb5 hsame5 g6
          go_wp2_with fail
          refine (addTypes _ S1 S1 _ vT T b o e1 HWT5.out HP5.out (fun _ h => h) ?_).mono ?_
          · have h1 := HNum.out.2.2.2.1.length Ty.sizes_pos
            have h2 := HNum.out.2.2.2.2
            have h3 := HSz.out
            have h4 := HNum.out.1
            have h5 := HNum.out.2.1
            omega
          rintro e w6 ⟨rfl, vT6, hwT6, hs6⟩
          have HWT6 := Lib.hid (show WalkT w6 S1 (w.heap.size + 1) vT6 (nextTT T e1) from hwT6)
          have hw6 := WalkE.over HW5.out HWT5.out hs6
          obtain ⟨_, _, _, hc6⟩ := hw6.form
          have HW6 := Lib.hid hw6
          have HB6 := Lib.hid (HB5.out.trans (hs6.below HFT1.out HB5.out.size) : Below wB.heap.size wB w6)
          have HFT6 := Lib.hid (HFT1.out.step hs6 HB5.out.size)
          clear hwT6 hw6 hs6
          go_wp2
          go_roundg (gk - 1)
          case measure => have h1 := HNum.out; have h2 := HSz.out; omega
          case rel =>
            obtain ⟨hw7, hf7⟩ := HW6.out.again HF3.out HB6.out.size
            refine ⟨w6.heap.size, _, nextSt st r d e1, vT6, nextTT T e1, rfl, hw7, hf7, HWT6.out.keep (T := fun _ => False) ((Keeps.refl _ w6).alloc _) (fun _ _ h => h.elim), HFT6.out, HB6.out.alloc HB6.out.size _, ⟨?_, ?_, nextSt_ok HNum.out.2.2.1, next_tok HNum.out.2.2.2.1 ?_, ?_⟩, ?_, ?_, ?_⟩
            · have h1 := HNum.out; have h2 := HSz.out; omega
            · have h1 := HNum.out; omega
            · have h1 := HNum.out.2.2.2.2
              rw [stSize_snoc] at h1
              simp only [Ex.tsizes] at h1
              omega
            · have h1 := HNum.out.2.2.2.2; have h2 := HTsz.out; omega
            · have h1 := HAll.out; rw [HOk1.out, Bool.true_and] at h1; rw [← h1]; exact HSem.out.1
            · rw [HTall.out]; exact HSem.out.2.1
            · rw [HTdp.out]; exact HSem.out.2.2

end Go.Proofs.Ythgbldkcgfggfaa
