/-
  tree.sameTypes, SameType: two walks side by side.
-/
import Derived.Test.YthgbldkcgfggfaaSame2
namespace Go.Proofs.Ythgbldkcgfggfaa
open Go.RowKit

/-- How many items each level has, and how deep it stands. -/
def shp {α : Type} (st : List (List α × Int)) : List (Nat × Int) := st.map fun x => (x.1.length, x.2)
theorem shp_snoc {α : Type} (st : List (List α × Int)) (l : List α) (d : Int) : shp (st ++ [(l, d)]) = shp st ++ [(l.length, d)] := by simp [shp]
theorem shp_push {α : Type} (st : List (List α × Int)) (l : List α) (d : Int) : shp (pushL st l d) = if l.length = 0 then shp st else shp st ++ [(l.length, d)] := by
  cases l with
  | nil => simp [pushL]
  | cons a r => simp [pushL, shp_snoc]
theorem shp_push_eq {α : Type} {st st' : List (List α × Int)} {l l' : List α} {d : Int} (h : shp st = shp st') (hl : l.length = l'.length) : shp (pushL st l d) = shp (pushL st' l' d) := by rw [shp_push, shp_push, h, hl]
theorem shp_unsnoc {α : Type} {st st' : List (List α × Int)} {a : α} {l : List α} {d : Int} (h : shp (st ++ [(a :: l, d)]) = shp st') : ∃ s b m, st' = s ++ [(b :: m, d)] ∧ shp st = shp s ∧ l.length = m.length := by
  rcases snoc_cases st' with rfl | ⟨s, ⟨m0, d0⟩, rfl⟩
  · simp [shp] at h
  · rw [shp_snoc, shp_snoc] at h
    have h1 := List.append_inj' h rfl
    have h2 : ((a :: l).length, d) = (m0.length, d0) := by simpa using h1.2
    simp only [Prod.mk.injEq] at h2
    obtain ⟨h3, rfl⟩ := h2
    cases m0 with
    | nil => simp at h3
    | cons b m => exact ⟨s, b, m, rfl, h1.1, by simpa using h3⟩
theorem shp_nil {α : Type} {st' : List (List α × Int)} (h : shp ([] : List (List α × Int)) = shp st') : st' = [] := by
  cases st' with
  | nil => rfl
  | cons a r => simp [shp] at h
theorem push_inj {α : Type} {st st' : List (List α × Int)} {l l' : List α} {d : Int} (_hs : shp st = shp st') (hl : l.length = l'.length) : pushL st l d = pushL st' l' d ↔ st = st' ∧ l = l' := by
  cases l with
  | nil =>
    have : l' = [] := by cases l' with | nil => rfl | cons a r => simp at hl
    subst this
    simp [pushL]
  | cons a r =>
    cases l' with
    | nil => simp at hl
    | cons b s => simp [pushL]

theorem Own.lt_T {w : World} {S : Nat → Prop} {g : Nat} {v : Value} {st : List (List Ty × Int)} (h : WalkT w S g v st) : ∀ k, Own g v k → k < w.heap.size := by
  obtain ⟨xs, hx, _⟩ := h.raw
  intro k hk
  rcases hk with rfl | e
  · exact hx.box.lt
  · exact (hx.own.lt k e).2
theorem Own.lt_E {w : World} {S : Nat → Prop} {g : Nat} {v : Value} {st : List (List Ex × Int)} (h : WalkE w S g v st) : ∀ k, Own g v k → k < w.heap.size := by
  obtain ⟨xs, hx, _⟩ := h.raw
  intro k hk
  rcases hk with rfl | e
  · exact hx.box.lt
  · exact (hx.own.lt k e).2
theorem Step.apart {w w' : World} {g : Nat} {v v' : Value} {D : Nat → Prop} (hs : Step w w' g v v') (ha : ∀ k, Own g v k → ¬ D k) (hl : ∀ k, D k → k < w.heap.size) : ∀ k, Own g v' k → ¬ D k := by
  intro k hk hk'
  rcases hk with rfl | e
  · exact ha _ (.inl rfl) hk'
  · rcases hs.moves with m | ⟨j, m, hj⟩
    · exact ha k (.inr (by rw [← m, e])) hk'
    · rw [e] at m; injection m with m; have := hl k hk'; omega
theorem Step.back {w w' : World} {g : Nat} {v v' : Value} (hs : Step w w' g v v') : ∀ k, Own g v' k → k < w.heap.size → Own g v k := by
  intro k hk hlt
  rcases hk with rfl | e
  · exact .inl rfl
  · rcases hs.moves with m | ⟨j, m, hj⟩
    · exact .inr (by rw [← m, e])
    · rw [e] at m; injection m with m; omega
theorem WalkT.beside {w w' : World} {S S' : Nat → Prop} {g g' : Nat} {v v' v2 : Value} {st : List (List Ty × Int)} {st' : List (List Ty × Int)} (_h : WalkT w S g v st) (h' : WalkT w S' g' v' st') (ha : ∀ k, Own g v k → ¬ Own g' v' k) (hd : ∀ k, Own g v k → ¬ S' k) (hs : Step w w' g v v2) : WalkT w' S' g' v' st' :=
  h'.keep hs.keeps (fun k _ hk => ⟨hd k hk, ha k hk⟩)

theorem tyLoc_iff (x y : Ty) : tyLoc x y = true ↔ x.kind = y.kind ∧ x.str = y.str ∧ x.op = y.op ∧ x.args.length = y.args.length ∧ x.labels = y.labels := by simp [tyLoc]
theorem ty_eq (x y : Ty) (h : tyLoc x y = true) : x = y ↔ x.args = y.args := by
  rw [tyLoc_iff] at h
  cases x; cases y
  simp only [Ty.kind, Ty.str, Ty.op, Ty.labels, Ty.args] at h ⊢
  obtain ⟨rfl, rfl, rfl, _, rfl⟩ := h
  simp

theorem nextTs_eq {st s : List (List Ty × Int)} {x y : Ty} {l m : List Ty} {d : Int} (hs : shp st = shp s) (hl : l.length = m.length) (h : tyLoc x y = true) :
    (st ++ [(x :: l, d)] = s ++ [(y :: m, d)] ↔ nextTs st l d x = nextTs s m d y) ∧ shp (nextTs st l d x) = shp (nextTs s m d y) := by
  have ha : x.args.length = y.args.length := ((tyLoc_iff x y).1 h).2.2.2.1
  have h1 := shp_push_eq (d := d) hs hl
  refine ⟨?_, shp_push_eq h1 ha⟩
  unfold nextTs
  rw [push_inj h1 ha, push_inj hs hl, ← ty_eq x y h]
  constructor
  · intro e
    have := List.append_inj' e rfl
    simp only [List.cons.injEq, Prod.mk.injEq, and_true] at this
    exact ⟨⟨this.1, this.2.2⟩, this.2.1⟩
  · rintro ⟨⟨rfl, rfl⟩, rfl⟩; rfl
theorem tyLoc_ne {st s : List (List Ty × Int)} {x y : Ty} {l m : List Ty} {d : Int} (h : tyLoc x y = false) : st ++ [(x :: l, d)] ≠ s ++ [(y :: m, d)] := by
  intro e
  have := List.append_inj' e rfl
  simp only [List.cons.injEq, Prod.mk.injEq, and_true] at this
  obtain ⟨_, rfl, _⟩ := this
  simp [tyLoc] at h

set_option maxRecDepth 100000 in
set_option maxHeartbeats 2000000 in
theorem sameTypes_r (w : World) (S1 S2 : Nat → Prop) (g1 g2 : Nat) (v1 v2 : Value) (st1 st2 : List (List Ty × Int)) (N : Nat) (r : Bool) (hw1 : WalkT w S1 g1 v1 st1) (hw2 : WalkT w S2 g2 v2 st2) (hap : ∀ k, Own g1 v1 k → ¬ Own g2 v2 k)
    (h12 : ∀ k, Own g1 v1 k → ¬ S2 k) (h21 : ∀ k, Own g2 v2 k → ¬ S1 k) (hsh : shp st1 = shp st2) (hok : stOk Ty.sizes (2 * N + 1) st1) (hs0 : stSize Ty.sizes st1 ≤ N) (hN : N ≤ 1000000) (hr : r = true ↔ st1 = st2) :
    Calls Try.prog 42 #[.pointer (some ⟨g1, 0, none⟩), .pointer (some ⟨g2, 0, none⟩)] w fun e w' => e = .returned (.bool r) ∧ Keeps (fun k => Own g1 v1 k ∨ Own g2 v2 k) w w' := by
  have HW1 := Lib.hid hw1
  have HW2 := Lib.hid hw2
  have HAp := Lib.hid hap
  have H12 := Lib.hid h12
  have H21 := Lib.hid h21
  have HSh := Lib.hid hsh
  have HOk := Lib.hid hok
  have HR := Lib.hid hr
  clear hw1 hw2 hap h12 h21 hsh hok hr
  go_enter Try.func42, Try.ntmps42
  go_wp2
  go_loopg [5, 6, 7, 8] N (fun k _ _ _ _ wr => ∃ (u1 u2 : Value) (t1 t2 : List (List Ty × Int)), WalkT wr S1 g1 u1 t1 ∧ WalkT wr S2 g2 u2 t2 ∧
    ((∀ k, Own g1 u1 k → ¬ Own g2 u2 k) ∧ (∀ k, Own g1 u1 k → ¬ S2 k) ∧ (∀ k, Own g2 u2 k → ¬ S1 k) ∧ (∀ k, Own g1 u1 k → k < w.heap.size → Own g1 v1 k) ∧ (∀ k, Own g2 u2 k → k < w.heap.size → Own g2 v2 k) ∧ Keeps (fun k => Own g1 v1 k ∨ Own g2 v2 k) w wr) ∧
    (shp t1 = shp t2 ∧ stOk Ty.sizes (2 * N + 1) t1 ∧ stSize Ty.sizes t1 ≤ k ∧ k ≤ N ∧ (r = true ↔ t1 = t2)))
  case atStart => exact ⟨v1, v2, st1, st2, HW1.out, HW2.out, ⟨HAp.out, H12.out, H21.out, fun _ h _ => h, fun _ h _ => h, Keeps.refl _ _⟩, HSh.out, HOk.out, hs0, Nat.le_refl _, HR.out⟩
  case round =>
    obtain ⟨u1, u2, t1, t2, hw1, hw2, hmem, hsem⟩ := hrel
    have HW1 := Lib.hid hw1
    have HW2 := Lib.hid hw2
    have HMem := Lib.hid hmem
    have HSem := Lib.hid hsem
    clear hw1 hw2 hmem hsem HAp H12 H21 HSh HOk HR
    rcases snoc_cases t1 with rfl | ⟨s1, ⟨l, d⟩, rfl⟩
    · have ht2 := shp_nil HSem.out.1
      have hrr : true = r := by rw [HSem.out.2.2.2.2.2 ht2.symm]
      subst hrr
      clear ht2
      go_wp2_with fail
      refine (moreT _ S1 g1 u1 [] false rfl HW1.out).mono ?_
      rintro e w2 ⟨rfl, rfl⟩
      go_wp2
      go_ret
      exact ⟨rfl, HMem.out.2.2.2.2.2⟩
    · obtain ⟨x, l, rfl⟩ := List.exists_cons_of_ne_nil (HSem.out.2.1.snoc).2.1
      obtain ⟨s2, y, m, rfl, hs12, hlm⟩ := shp_unsnoc HSem.out.1
      have HS12 := Lib.hid hs12
      have HLM := Lib.hid hlm
      have hd0 : 0 ≤ d := by have := HSem.out.2.1.snoc.2.2.1; omega
      have hd9 : d ≤ 1000000000 := by have := HSem.out.2.1.snoc.2.2.2; omega
      have hl1 : s1.length ≤ 1000000000 := by
        have h1 := HSem.out.2.1.snoc.1.length Ty.sizes_pos
        have h2 := HSem.out.2.2.1
        have h3 := HSem.out.2.2.2.1
        rw [stSize_snoc] at h2
        omega
      have hl2 : s2.length ≤ 1000000000 := by
        have := congrArg List.length hs12
        simp [shp] at this
        omega
      clear hs12 hlm
      go_wp2_with fail
      refine (moreT _ S1 g1 u1 _ true (by simp) HW1.out).mono ?_
      rintro e w2 ⟨rfl, rfl⟩
      go_wp2_with fail
      refine (nextT _ S1 g1 u1 s1 x l d HW1.out hl1 hd0 hd9).mono ?_
      rintro e w3 ⟨b1, o1, rfl, hp1, u3, hw3, hs3⟩
      have HW3 := Lib.hid (show WalkT w3 S1 g1 u3 (nextTs s1 l d x) from hw3)
      have HW32 := Lib.hid (WalkT.beside HW1.out HW2.out HMem.out.1 HMem.out.2.1 hs3)
      have HA3 := Lib.hid (hs3.apart HMem.out.1 (Own.lt_T HW2.out))
      have HD3 := Lib.hid (hs3.apart HMem.out.2.1 HW2.out.old)
      have HP1 := Lib.hid hp1
      have HS3 := Lib.hid hs3
      clear hp1 hw3 hs3
      go_wp2_with fail
      refine (nextT _ S2 g2 u2 s2 y m d HW32.out hl2 hd0 hd9).mono ?_
      rintro e w4 ⟨b2, o2, rfl, hp2, u4, hw4, hs4⟩
      have HW4 := Lib.hid (show WalkT w4 S2 g2 u4 (nextTs s2 m d y) from hw4)
      have HA3' : Hid (∀ k, Own g2 u2 k → ¬ Own g1 u3 k) := fun k h1 h2 => HA3.out k h2 h1
      have HW41 := Lib.hid (WalkT.beside HW32.out HW3.out HA3'.out HMem.out.2.2.1 hs4)
      have HA4 := Lib.hid (hs4.apart HA3'.out (Own.lt_T HW3.out))
      have HD4 := Lib.hid (hs4.apart HMem.out.2.2.1 HW3.out.old)
      have HP1' := Lib.hid (HP1.out.keep (fun k hk => ⟨hk, hs4.keeps.block k (HW3.out.old k hk) (fun e => HMem.out.2.2.1 k e hk)⟩))
      have HP2 := Lib.hid hp2
      have hk34 : Keeps (fun k => Own g1 v1 k ∨ Own g2 v2 k) w w4 :=
        (HMem.out.2.2.2.2.2.trans' HS3.out.keeps (fun i hi e => .inl (HMem.out.2.2.2.1 i e hi))).trans' hs4.keeps (fun i hi e => .inr (HMem.out.2.2.2.2.1 i e hi))
      have hback1 : ∀ k, Own g1 u3 k → k < w.heap.size → Own g1 v1 k := fun k h1 h2 => HMem.out.2.2.2.1 k (HS3.out.back k h1 (Nat.lt_of_lt_of_le h2 HMem.out.2.2.2.2.2.size)) h2
      have hback2 : ∀ k, Own g2 u4 k → k < w.heap.size → Own g2 v2 k := fun k h1 h2 => HMem.out.2.2.2.2.1 k (hs4.back k h1 (Nat.lt_of_lt_of_le (Nat.lt_of_lt_of_le h2 HMem.out.2.2.2.2.2.size) HS3.out.keeps.size)) h2
      have HK := Lib.hid hk34
      have HBk1 := Lib.hid hback1
      have HBk2 := Lib.hid hback2
      clear hp2 hw4 hs4 hk34 hback1 hback2
      rcases hn : tyLoc x y with _ | _
      · have hrr : false = r := by
          have h1 := HSem.out.2.2.2.2
          cases r with
          | false => rfl
          | true => exact absurd (h1.1 rfl) (tyLoc_ne hn)
        subst hrr
        have HN := Lib.hid hn
        clear hn
        go_wp2_with fail
        refine (sameType_r _ S1 S2 b1 o1 b2 o2 x y false HP1'.out HP2.out HN.out).mono ?_
        rintro e w5 ⟨rfl, n5, rfl⟩
        go_wp2
        go_ret
        exact ⟨rfl, HK.out.drewN n5⟩
      · have hnx := nextTs_eq (d := d) HS12.out HLM.out hn
        have HNx := Lib.hid hnx
        have HN := Lib.hid hn
        clear hn hnx
        go_wp2_with fail
        refine (sameType_r _ S1 S2 b1 o1 b2 o2 x y true HP1'.out HP2.out HN.out).mono ?_
        rintro e w5 ⟨rfl, n5, rfl⟩
        go_wp2
        go_roundg (gk - 1)
        case measure => have h1 := HSem.out.2.2.1; have h2 := nextTs_size s1 l d x; omega
        case rel =>
          refine ⟨u3, u4, nextTs s1 l d x, nextTs s2 m d y, HW41.out.keep (T := fun _ => False) ((Keeps.refl _ w4).drewN n5) (fun _ _ h => h.elim), HW4.out.keep (T := fun _ => False) ((Keeps.refl _ w4).drewN n5) (fun _ _ h => h.elim), ⟨fun k h1 h2 => HA4.out k h2 h1, HD3.out, HD4.out, HBk1.out, HBk2.out, HK.out.drewN n5⟩, HNx.out.2, nextTs_ok HSem.out.2.1, ?_, ?_, ?_⟩
          · have h1 := HSem.out.2.2.1; have h2 := nextTs_size s1 l d x; omega
          · have h1 := HSem.out.2.2.2.1; omega
          · rw [HSem.out.2.2.2.2, HNx.out.1]

end Go.Proofs.Ythgbldkcgfggfaa
