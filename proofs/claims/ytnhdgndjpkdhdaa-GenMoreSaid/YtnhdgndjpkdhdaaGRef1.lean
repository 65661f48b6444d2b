/-
  trefoilref06.Labels, Ints, IsFree, Alike.
-/
import Derived.Test.YtnhdgndjpkdhdaaGByte
import Derived.Test.YtnhdgndjpkdhdaaGMem
namespace Go.Proofs.Ytnhdgndjpkdhdaa
open Go.RowKit

theorem bytes_eq {a b : ByteArray} : (a.toList == b.toList) = decide (a = b) := by
  rw [Lib.toList_data, Lib.toList_data]
  by_cases h : a = b
  · subst h; simp
  · have h2 : a.data ≠ b.data := fun e => h (by cases a; cases b; simp at e; subst e; rfl)
    simp [h, h2]
theorem take_drop_eq {α : Type} (l1 l2 : List α) (k : Nat) (h1 : k < l1.length) (h2 : k < l2.length) : l1.drop k = l2.drop k ↔ l1[k] = l2[k] ∧ l1.drop (k + 1) = l2.drop (k + 1) := by
  rw [List.drop_eq_getElem_cons h1, List.drop_eq_getElem_cons h2]
  constructor
  · intro e; injection e with e1 e2; exact ⟨e1, e2⟩
  · rintro ⟨e1, e2⟩; rw [e1, e2]

set_option maxHeartbeats 400000 in
theorem labels_r (w : World) (S1 S2 : Nat → Prop) (l1 l2 : List ByteArray) (A1 A2 : Option Addr) (c1 c2 : Nat) (r : Bool) (h1 : StrsO w S1 l1 A1) (h2 : StrsO w S2 l2 A2) (hc1 : l1.length ≤ c1) (hm1 : c1 ≤ maxLen) (_hc2 : l2.length ≤ c2) (_hm2 : c2 ≤ maxLen) (hr : decide (l1 = l2) = r) :
    Calls Try.prog 53 #[.slice A1 l1.length c1, .slice A2 l2.length c2] w fun e w' => e = .returned (.bool r) ∧ ∃ n, w' = w.drewN n := by
  unfold maxLen at hm1
  have H1 := Lib.hid h1
  have H2 := Lib.hid h2
  have HR := Lib.hid hr
  clear h1 h2 hr
  by_cases hlen : l1.length = l2.length
  · have hne : ((l1.length : Int) != (l2.length : Int)) = false := by rw [bne_eq_false_iff_eq]; omega
    have HLen := Lib.hid hlen
    clear hlen
    go_enter Try.func53, Try.ntmps53
    go_wp2
    go_loopw [5, 13] (fun _ i wr => ∃ k n : Nat, i = .int .i64 k ∧ k ≤ l1.length ∧ decide (l1.drop k = l2.drop k) = r ∧ wr = w.drewN n) (fun _ i _ => l1.length - (intOf i).toNat)
    case atStart => exact ⟨0, 0, rfl, Nat.zero_le _, by simpa using HR.out, rfl⟩
    case round =>
      obtain ⟨k, n, rfl, hk, hq, rfl⟩ := hrel
      have Hq := Lib.hid hq
      clear hq
      by_cases hlt : k < l1.length
      · have hlt2 : k < l2.length := by rw [← HLen.out]; exact hlt
        obtain ⟨b1, o1, rfl, _, d1, z1⟩ := StrsO.get _ _ H1.out k hlt
        obtain ⟨b2, o2, rfl, _, d2, z2⟩ := StrsO.get _ _ H2.out k hlt2
        have hd := take_drop_eq l1 l2 k hlt hlt2
        obtain ⟨s, hs⟩ : ∃ s, s = l1[k] := ⟨_, rfl⟩
        obtain ⟨t, ht⟩ : ∃ t, t = l2[k] := ⟨_, rfl⟩
        rw [← hs] at d1 hd
        rw [← ht] at d2 hd
        by_cases hst : s = t
        · have hb0 : (s.toList == t.toList) = true := by rw [bytes_eq, decide_eq_true hst]
          have hd2 : decide (l1.drop (k + 1) = l2.drop (k + 1)) = r := by
            rw [← Hq.out]
            by_cases h : l1.drop (k + 1) = l2.drop (k + 1)
            · rw [decide_eq_true h, decide_eq_true (hd.2 ⟨hst, h⟩)]
            · rw [decide_eq_false h, decide_eq_false (fun e => h (hd.1 e).2)]
          have HD := Lib.hid hd2
          clear hd hd2 hs ht hst
          go_wp2
          go_quiet (fail)
          go_wp2
          go_roundw
          case rel => exact ⟨k + 1, n + nq, by go_num, by omega, HD.out, rfl⟩
          case measure => simp [intOf]; omega
        · have hb0 : (s.toList == t.toList) = false := by rw [bytes_eq, decide_eq_false hst]
          have hrr : false = r := by rw [← Hq.out, decide_eq_false (fun e => hst (hd.1 e).1)]
          subst hrr
          clear hd hs ht hst
          go_wp2
          go_quiet (fail)
          go_wp2
          go_ret
          exact ⟨rfl, n + nq, World.drewN_drewN ..⟩
      · have hrr : true = r := by
          rw [← Hq.out, List.drop_eq_nil_of_le (by omega), List.drop_eq_nil_of_le (by rw [← HLen.out]; omega)]
          simp
        subst hrr
        go_wp2
        go_ret
        exact ⟨rfl, n, rfl⟩
  · have hne : ((l1.length : Int) != (l2.length : Int)) = true := by rw [bne_iff_ne]; omega
    have hrr : false = r := by rw [← HR.out, decide_eq_false (fun e => hlen (by rw [e]))]
    subst hrr
    clear hlen
    go_enter Try.func53, Try.ntmps53
    go_wp2
    go_ret
    exact ⟨rfl, 0, rfl⟩


set_option maxHeartbeats 400000 in
theorem ints_r (w : World) (S1 S2 : Nat → Prop) (l1 l2 : List Int) (A1 A2 : Option Addr) (c1 c2 : Nat) (r : Bool) (h1 : IntsO w S1 l1 A1) (h2 : IntsO w S2 l2 A2) (hc1 : l1.length ≤ c1) (hm1 : c1 ≤ maxLen) (_hc2 : l2.length ≤ c2) (_hm2 : c2 ≤ maxLen) (hr : decide (l1 = l2) = r) :
    Calls Try.prog 15 #[.slice A1 l1.length c1, .slice A2 l2.length c2] w fun e w' => e = .returned (.bool r) ∧ ∃ n, w' = w.drewN n := by
  unfold maxLen at hm1
  have H1 := Lib.hid h1
  have H2 := Lib.hid h2
  have HR := Lib.hid hr
  clear h1 h2 hr
  by_cases hlen : l1.length = l2.length
  · have hne : ((l1.length : Int) != (l2.length : Int)) = false := by rw [bne_eq_false_iff_eq]; omega
    have HLen := Lib.hid hlen
    clear hlen
    go_enter Try.func15, Try.ntmps15
    go_wp2
    go_loopw [5, 13] (fun _ i wr => ∃ k n : Nat, i = .int .i64 k ∧ k ≤ l1.length ∧ decide (l1.drop k = l2.drop k) = r ∧ wr = w.drewN n) (fun _ i _ => l1.length - (intOf i).toNat)
    case atStart => exact ⟨0, 0, rfl, Nat.zero_le _, by simpa using HR.out, rfl⟩
    case round =>
      obtain ⟨k, n, rfl, hk, hq, rfl⟩ := hrel
      have Hq := Lib.hid hq
      clear hq
      by_cases hlt : k < l1.length
      · have hlt2 : k < l2.length := by rw [← HLen.out]; exact hlt
        obtain ⟨b1, o1, rfl, _, d1⟩ := IntsO.get _ _ H1.out k hlt
        obtain ⟨b2, o2, rfl, _, d2⟩ := IntsO.get _ _ H2.out k hlt2
        have hd := take_drop_eq l1 l2 k hlt hlt2
        obtain ⟨s, hs⟩ : ∃ s, s = l1[k] := ⟨_, rfl⟩
        obtain ⟨t, ht⟩ : ∃ t, t = l2[k] := ⟨_, rfl⟩
        rw [← hs] at d1 hd
        rw [← ht] at d2 hd
        by_cases hst : s = t
        · have hb0 : (s != t) = false := by rw [bne_eq_false_iff_eq]; exact hst
          have hd2 : decide (l1.drop (k + 1) = l2.drop (k + 1)) = r := by
            rw [← Hq.out]
            by_cases h : l1.drop (k + 1) = l2.drop (k + 1)
            · rw [decide_eq_true h, decide_eq_true (hd.2 ⟨hst, h⟩)]
            · rw [decide_eq_false h, decide_eq_false (fun e => h (hd.1 e).2)]
          have HD := Lib.hid hd2
          clear hd hd2 hs ht hst
          go_wp2
          go_quiet (fail)
          go_wp2
          go_roundw
          case rel => exact ⟨k + 1, n + nq, by go_num, by omega, HD.out, rfl⟩
          case measure => simp [intOf]; omega
        · have hb0 : (s != t) = true := by rw [bne_iff_ne]; exact hst
          have hrr : false = r := by rw [← Hq.out, decide_eq_false (fun e => hst (hd.1 e).1)]
          subst hrr
          clear hd hs ht hst
          go_wp2
          go_quiet (fail)
          go_wp2
          go_ret
          exact ⟨rfl, n + nq, World.drewN_drewN ..⟩
      · have hrr : true = r := by
          rw [← Hq.out, List.drop_eq_nil_of_le (by omega), List.drop_eq_nil_of_le (by rw [← HLen.out]; omega)]
          simp
        subst hrr
        go_wp2
        go_ret
        exact ⟨rfl, n, rfl⟩
  · have hne : ((l1.length : Int) != (l2.length : Int)) = true := by rw [bne_iff_ne]; omega
    have hrr : false = r := by rw [← HR.out, decide_eq_false (fun e => hlen (by rw [e]))]
    subst hrr
    clear hlen
    go_enter Try.func15, Try.ntmps15
    go_wp2
    go_ret
    exact ⟨rfl, 0, rfl⟩


def RNd.free (x : RNd) : Bool := decide (x.kind = 1) || (decide (x.kind = 3) && x.op)
set_option maxHeartbeats 400000 in
theorem isFree_r (w : World) (x : RNd) (aA aL : Option Addr) (nA cA nL cL : Nat) :
    Calls Try.prog 28 #[.agg #[.int .i64 x.kind, .string x.name, .slice aA nA cA, .slice aL nL cL, .bool x.op]] w fun e w' => e = .returned (.bool x.free) ∧ Below w.heap.size w w' := by
  obtain ⟨k, s, ars, ls, o⟩ := x
  by_cases h1 : k = 1
  · subst h1
    go_enter Try.func28, Try.ntmps28
    go_wp2
    go_ret
    exact ⟨by simp [RNd.free], (Below.refl _ _).alloc (Nat.le_refl _) _⟩
  · by_cases h3 : k = 3
    · subst h3
      go_enter Try.func28, Try.ntmps28
      go_wp2
      go_ret
      exact ⟨by simp [RNd.free], (Below.refl _ _).alloc (Nat.le_refl _) _⟩
    · go_enter Try.func28, Try.ntmps28
      go_wp2
      go_ret
      exact ⟨by simp [RNd.free, h1, h3], (Below.refl _ _).alloc (Nat.le_refl _) _⟩

theorem Below.drewN'' {B : Nat} {a w : World} (h : Below B a w) (n : Nat) : Below B a (w.drewN n) := ⟨h.os, h.tape, h.output, h.size, h.block⟩

def RNd.alike (x y : RNd) : Prop := x.kind = y.kind ∧ x.name = y.name ∧ x.op = y.op ∧ x.args.length = y.args.length ∧ x.labels = y.labels
set_option maxRecDepth 100000 in
set_option maxHeartbeats 1000000 in
theorem alike_r (w : World) (S1 S2 : Nat → Prop) (x y : RNd) (vx vy : Value) (r : Bool) (hS1 : ∀ k, S1 k → k < w.heap.size) (hS2 : ∀ k, S2 k → k < w.heap.size) (hx : NdV w S1 x vx) (hy : NdV w S2 y vy) (hr : r = true ↔ x.alike y) :
    Calls Try.prog 37 #[vx, vy] w fun e w' => e = .returned (.bool r) ∧ Below w.heap.size w w' := by
  obtain ⟨k1, s1, a1, l1, o1⟩ := x
  obtain ⟨k2, s2, a2, l2, o2⟩ := y
  obtain ⟨A1, cA1, L1, cL1, rfl, hs1, hA1, hA1m, hL1, hL1m, tA1, tL1⟩ := hx
  obtain ⟨A2, cA2, L2, cL2, rfl, hs2, hA2, hA2m, hL2, hL2m, tA2, tL2⟩ := hy
  simp only [] at hs1 hs2 hA1 hA2 hL1 hL2 tL1 tL2
  simp only [RNd.alike] at hr
  have HR := Lib.hid hr
  have HN := Lib.hid (fun W (hW : Below w.heap.size w W) => (⟨StrsO.keep (fun k hk => ⟨hk, hW.block k (hS1 k hk)⟩) _ _ tL1, StrsO.keep (fun k hk => ⟨hk, hW.block k (hS2 k hk)⟩) _ _ tL2⟩ : StrsO W S1 l1 L1 ∧ StrsO W S2 l2 L2))
  clear tA1 tA2 tL1 tL2 hr hS1 hS2
  by_cases hk : k1 = k2
  · subst hk
    by_cases hs : s1 = s2
    · subst hs
      by_cases ho : o1 = o2
      · subst ho
        by_cases ha : a1.length = a2.length
        · have hae : ((a1.length : Int) == (a2.length : Int)) = true := by rw [ha]; simp
          have HA := Lib.hid ha
          clear ha
          obtain ⟨q, hq⟩ : ∃ q, decide (l1 = l2) = q := ⟨_, rfl⟩
          have hrr : r = q := by
            rw [← hq]
            cases r with
            | true => exact (decide_eq_true (HR.out.1 rfl).2.2.2.2).symm
            | false => exact (decide_eq_false (fun e => by cases HR.out.2 ⟨rfl, rfl, rfl, HA.out, e⟩)).symm
          subst hrr
          have HQ := Lib.hid hq
          clear hq
          go_enter Try.func37, Try.ntmps37
          go_wp2_with (go_at_call 53; refine (labels_r _ S1 S2 l1 l2 L1 L2 cL1 cL2 r (HN.out _ ?_).1 (HN.out _ ?_).2 hL1 hL1m hL2 hL2m HQ.out).mono ?_; (· exact ((Below.refl _ _).alloc (Nat.le_refl _) _).alloc (by simp) _); (· exact ((Below.refl _ _).alloc (Nat.le_refl _) _).alloc (by simp) _); rintro e w' ⟨rfl, n, rfl⟩)
          go_ret
          exact ⟨rfl, Below.drewN'' (((Below.refl _ _).alloc (Nat.le_refl _) _).alloc (by simp) _) _⟩
        · have hae : ((a1.length : Int) == (a2.length : Int)) = false := by rw [beq_eq_false_iff_ne]; omega
          have hrr : r = false := by
            cases r with
            | false => rfl
            | true => exact absurd (HR.out.1 rfl).2.2.2.1 ha
          subst hrr
          go_enter Try.func37, Try.ntmps37
          go_wp2
          go_ret
          exact ⟨rfl, by exact ((Below.refl _ _).alloc (Nat.le_refl _) _).alloc (by simp) _⟩
      · have hoe : (o1 == o2) = false := by cases o1 <;> cases o2 <;> first | rfl | exact absurd rfl ho
        have hrr : r = false := by
          cases r with
          | false => rfl
          | true => exact absurd (HR.out.1 rfl).2.2.1 ho
        subst hrr
        go_enter Try.func37, Try.ntmps37
        go_wp2
        go_ret
        exact ⟨rfl, by exact ((Below.refl _ _).alloc (Nat.le_refl _) _).alloc (by simp) _⟩
    · have hb0 : (s1.toList == s2.toList) = false := by rw [bytes_eq, decide_eq_false hs]
      have hrr : r = false := by
        cases r with
        | false => rfl
        | true => exact absurd (HR.out.1 rfl).2.1 hs
      subst hrr
      go_enter Try.func37, Try.ntmps37
      go_wp2
      go_ret
      exact ⟨rfl, by exact ((Below.refl _ _).alloc (Nat.le_refl _) _).alloc (by simp) _⟩
  · have hrr : r = false := by
      cases r with
      | false => rfl
      | true => exact absurd (HR.out.1 rfl).1 hk
    subst hrr
    go_enter Try.func37, Try.ntmps37
    go_wp2
    go_ret
    exact ⟨rfl, by exact ((Below.refl _ _).alloc (Nat.le_refl _) _).alloc (by simp) _⟩

end Go.Proofs.Ytnhdgndjpkdhdaa
