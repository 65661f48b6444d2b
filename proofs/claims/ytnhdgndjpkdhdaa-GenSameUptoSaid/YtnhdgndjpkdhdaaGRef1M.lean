/-
  trefoilref06.Labels, Ints, IsFree, Alike.
-/
/-
  trefoilref06.may.
-/
/-
  trefoilref06.Check.
-/
import Derived.Test.YtnhdgndjpkdhdaaGByte
import Derived.Test.YtnhdgndjpkdhdaaGMem
namespace Go.Proofs.Ytnhdgndjpkdhdaa
open Go.RowKit

theorem bytes_eq {a b : ByteArray} : (a.toList == b.toList) = decide (a = b) := by
  rw [Lib.toList_data, Lib.toList_data]
  by_cases h : a = b
  · subst h; simp
  · have h2 : a.data ≠ b.data := fun e => h (by cases a; cases b; simp at e; subst e; rfl)
    simp [h, h2]
theorem take_drop_eq {α : Type} (l1 l2 : List α) (k : Nat) (h1 : k < l1.length) (h2 : k < l2.length) : l1.drop k = l2.drop k ↔ l1[k] = l2[k] ∧ l1.drop (k + 1) = l2.drop (k + 1) := by
  rw [List.drop_eq_getElem_cons h1, List.drop_eq_getElem_cons h2]
  constructor
  · intro e; injection e with e1 e2; exact ⟨e1, e2⟩
  · rintro ⟨e1, e2⟩; rw [e1, e2]

set_option maxHeartbeats 400000 in
theorem labels_r (w : World) (S1 S2 : Nat → Prop) (l1 l2 : List ByteArray) (A1 A2 : Option Addr) (c1 c2 : Nat) (r : Bool) (h1 : StrsO w S1 l1 A1) (h2 : StrsO w S2 l2 A2) (hc1 : l1.length ≤ c1) (hm1 : c1 ≤ maxLen) (_hc2 : l2.length ≤ c2) (_hm2 : c2 ≤ maxLen) (hr : decide (l1 = l2) = r) :
    Calls Try.prog 53 #[.slice A1 l1.length c1, .slice A2 l2.length c2] w fun e w' => e = .returned (.bool r) ∧ ∃ n, w' = w.drewN n := by
  unfold maxLen at hm1
  have H1 := Lib.hid h1
  have H2 := Lib.hid h2
  have HR := Lib.hid hr
  clear h1 h2 hr
  by_cases hlen : l1.length = l2.length
  · have hne : ((l1.length : Int) != (l2.length : Int)) = false := by rw [bne_eq_false_iff_eq]; omega
    have HLen := Lib.hid hlen
    clear hlen
    go_enter Try.func53, Try.ntmps53
    go_wp2
    go_loopw [5, 13] (fun _ i wr => ∃ k n : Nat, i = .int .i64 k ∧ k ≤ l1.length ∧ decide (l1.drop k = l2.drop k) = r ∧ wr = w.drewN n) (fun _ i _ => l1.length - (intOf i).toNat)
    case atStart => exact ⟨0, 0, rfl, Nat.zero_le _, by simpa using HR.out, rfl⟩
    case round =>
      obtain ⟨k, n, rfl, hk, hq, rfl⟩ := hrel
      have Hq := Lib.hid hq
      clear hq
      by_cases hlt : k < l1.length
      · have hlt2 : k < l2.length := by rw [← HLen.out]; exact hlt
        obtain ⟨b1, o1, rfl, _, d1, z1⟩ := StrsO.get _ _ H1.out k hlt
        obtain ⟨b2, o2, rfl, _, d2, z2⟩ := StrsO.get _ _ H2.out k hlt2
        have hd := take_drop_eq l1 l2 k hlt hlt2
        obtain ⟨s, hs⟩ : ∃ s, s = l1[k] := ⟨_, rfl⟩
        obtain ⟨t, ht⟩ : ∃ t, t = l2[k] := ⟨_, rfl⟩
        rw [← hs] at d1 hd
        rw [← ht] at d2 hd
        by_cases hst : s = t
        · have hb0 : (s.toList == t.toList) = true := by rw [bytes_eq, decide_eq_true hst]
          have hd2 : decide (l1.drop (k + 1) = l2.drop (k + 1)) = r := by
            rw [← Hq.out]
            by_cases h : l1.drop (k + 1) = l2.drop (k + 1)
            · rw [decide_eq_true h, decide_eq_true (hd.2 ⟨hst, h⟩)]
            · rw [decide_eq_false h, decide_eq_false (fun e => h (hd.1 e).2)]
          have HD := Lib.hid hd2
          clear hd hd2 hs ht hst
          go_wp2
          go_quiet (fail)
          go_wp2
          go_roundw
          case rel => exact ⟨k + 1, n + nq, by go_num, by omega, HD.out, rfl⟩
          case measure => simp [intOf]; omega
        · have hb0 : (s.toList == t.toList) = false := by rw [bytes_eq, decide_eq_false hst]
          have hrr : false = r := by rw [← Hq.out, decide_eq_false (fun e => hst (hd.1 e).1)]
          subst hrr
          clear hd hs ht hst
          go_wp2
          go_quiet (fail)
          go_wp2
          go_ret
          exact ⟨rfl, n + nq, World.drewN_drewN ..⟩
      · have hrr : true = r := by
          rw [← Hq.out, List.drop_eq_nil_of_le (by omega), List.drop_eq_nil_of_le (by rw [← HLen.out]; omega)]
          simp
        subst hrr
        go_wp2
        go_ret
        exact ⟨rfl, n, rfl⟩
  · have hne : ((l1.length : Int) != (l2.length : Int)) = true := by rw [bne_iff_ne]; omega
    have hrr : false = r := by rw [← HR.out, decide_eq_false (fun e => hlen (by rw [e]))]
    subst hrr
    clear hlen
    go_enter Try.func53, Try.ntmps53
    go_wp2
    go_ret
    exact ⟨rfl, 0, rfl⟩


set_option maxHeartbeats 400000 in
theorem ints_r (w : World) (S1 S2 : Nat → Prop) (l1 l2 : List Int) (A1 A2 : Option Addr) (c1 c2 : Nat) (r : Bool) (h1 : IntsO w S1 l1 A1) (h2 : IntsO w S2 l2 A2) (hc1 : l1.length ≤ c1) (hm1 : c1 ≤ maxLen) (_hc2 : l2.length ≤ c2) (_hm2 : c2 ≤ maxLen) (hr : decide (l1 = l2) = r) :
    Calls Try.prog 15 #[.slice A1 l1.length c1, .slice A2 l2.length c2] w fun e w' => e = .returned (.bool r) ∧ ∃ n, w' = w.drewN n := by
  unfold maxLen at hm1
  have H1 := Lib.hid h1
  have H2 := Lib.hid h2
  have HR := Lib.hid hr
  clear h1 h2 hr
  by_cases hlen : l1.length = l2.length
  · have hne : ((l1.length : Int) != (l2.length : Int)) = false := by rw [bne_eq_false_iff_eq]; omega
    have HLen := Lib.hid hlen
    clear hlen
    go_enter Try.func15, Try.ntmps15
    go_wp2
    go_loopw [5, 13] (fun _ i wr => ∃ k n : Nat, i = .int .i64 k ∧ k ≤ l1.length ∧ decide (l1.drop k = l2.drop k) = r ∧ wr = w.drewN n) (fun _ i _ => l1.length - (intOf i).toNat)
    case atStart => exact ⟨0, 0, rfl, Nat.zero_le _, by simpa using HR.out, rfl⟩
    case round =>
      obtain ⟨k, n, rfl, hk, hq, rfl⟩ := hrel
      have Hq := Lib.hid hq
      clear hq
      by_cases hlt : k < l1.length
      · have hlt2 : k < l2.length := by rw [← HLen.out]; exact hlt
        obtain ⟨b1, o1, rfl, _, d1⟩ := IntsO.get _ _ H1.out k hlt
        obtain ⟨b2, o2, rfl, _, d2⟩ := IntsO.get _ _ H2.out k hlt2
        have hd := take_drop_eq l1 l2 k hlt hlt2
        obtain ⟨s, hs⟩ : ∃ s, s = l1[k] := ⟨_, rfl⟩
        obtain ⟨t, ht⟩ : ∃ t, t = l2[k] := ⟨_, rfl⟩
        rw [← hs] at d1 hd
        rw [← ht] at d2 hd
        by_cases hst : s = t
        · have hb0 : (s != t) = false := by rw [bne_eq_false_iff_eq]; exact hst
          have hd2 : decide (l1.drop (k + 1) = l2.drop (k + 1)) = r := by
            rw [← Hq.out]
            by_cases h : l1.drop (k + 1) = l2.drop (k + 1)
            · rw [decide_eq_true h, decide_eq_true (hd.2 ⟨hst, h⟩)]
            · rw [decide_eq_false h, decide_eq_false (fun e => h (hd.1 e).2)]
          have HD := Lib.hid hd2
          clear hd hd2 hs ht hst
          go_wp2
          go_quiet (fail)
          go_wp2
          go_roundw
          case rel => exact ⟨k + 1, n + nq, by go_num, by omega, HD.out, rfl⟩
          case measure => simp [intOf]; omega
        · have hb0 : (s != t) = true := by rw [bne_iff_ne]; exact hst
          have hrr : false = r := by rw [← Hq.out, decide_eq_false (fun e => hst (hd.1 e).1)]
          subst hrr
          clear hd hs ht hst
          go_wp2
          go_quiet (fail)
          go_wp2
          go_ret
          exact ⟨rfl, n + nq, World.drewN_drewN ..⟩
      · have hrr : true = r := by
          rw [← Hq.out, List.drop_eq_nil_of_le (by omega), List.drop_eq_nil_of_le (by rw [← HLen.out]; omega)]
          simp
        subst hrr
        go_wp2
        go_ret
        exact ⟨rfl, n, rfl⟩
  · have hne : ((l1.length : Int) != (l2.length : Int)) = true := by rw [bne_iff_ne]; omega
    have hrr : false = r := by rw [← HR.out, decide_eq_false (fun e => hlen (by rw [e]))]
    subst hrr
    clear hlen
    go_enter Try.func15, Try.ntmps15
    go_wp2
    go_ret
    exact ⟨rfl, 0, rfl⟩


def RNd.free (x : RNd) : Bool := decide (x.kind = 1) || (decide (x.kind = 3) && x.op)
set_option maxHeartbeats 400000 in
theorem isFree_r (w : World) (x : RNd) (aA aL : Option Addr) (nA cA nL cL : Nat) :
    Calls Try.prog 28 #[.agg #[.int .i64 x.kind, .string x.name, .slice aA nA cA, .slice aL nL cL, .bool x.op]] w fun e w' => e = .returned (.bool x.free) ∧ Below w.heap.size w w' := by
  obtain ⟨k, s, ars, ls, o⟩ := x
  by_cases h1 : k = 1
  · subst h1
    go_enter Try.func28, Try.ntmps28
    go_wp2
    go_ret
    exact ⟨by simp [RNd.free], (Below.refl _ _).alloc (Nat.le_refl _) _⟩
  · by_cases h3 : k = 3
    · subst h3
      go_enter Try.func28, Try.ntmps28
      go_wp2
      go_ret
      exact ⟨by simp [RNd.free], (Below.refl _ _).alloc (Nat.le_refl _) _⟩
    · go_enter Try.func28, Try.ntmps28
      go_wp2
      go_ret
      exact ⟨by simp [RNd.free, h1, h3], (Below.refl _ _).alloc (Nat.le_refl _) _⟩

theorem Below.drewN'' {B : Nat} {a w : World} (h : Below B a w) (n : Nat) : Below B a (w.drewN n) := ⟨h.os, h.tape, h.output, h.size, h.block⟩

def RNd.alike (x y : RNd) : Prop := x.kind = y.kind ∧ x.name = y.name ∧ x.op = y.op ∧ x.args.length = y.args.length ∧ x.labels = y.labels
set_option maxRecDepth 100000 in
set_option maxHeartbeats 1000000 in
theorem alike_r (w : World) (S1 S2 : Nat → Prop) (x y : RNd) (vx vy : Value) (r : Bool) (hS1 : ∀ k, S1 k → k < w.heap.size) (hS2 : ∀ k, S2 k → k < w.heap.size) (hx : NdV w S1 x vx) (hy : NdV w S2 y vy) (hr : r = true ↔ x.alike y) :
    Calls Try.prog 37 #[vx, vy] w fun e w' => e = .returned (.bool r) ∧ Below w.heap.size w w' := by
  obtain ⟨k1, s1, a1, l1, o1⟩ := x
  obtain ⟨k2, s2, a2, l2, o2⟩ := y
  obtain ⟨A1, cA1, L1, cL1, rfl, hs1, hA1, hA1m, hL1, hL1m, tA1, tL1⟩ := hx
  obtain ⟨A2, cA2, L2, cL2, rfl, hs2, hA2, hA2m, hL2, hL2m, tA2, tL2⟩ := hy
  simp only [] at hs1 hs2 hA1 hA2 hL1 hL2 tL1 tL2
  simp only [RNd.alike] at hr
  have HR := Lib.hid hr
  have HN := Lib.hid (fun W (hW : Below w.heap.size w W) => (⟨StrsO.keep (fun k hk => ⟨hk, hW.block k (hS1 k hk)⟩) _ _ tL1, StrsO.keep (fun k hk => ⟨hk, hW.block k (hS2 k hk)⟩) _ _ tL2⟩ : StrsO W S1 l1 L1 ∧ StrsO W S2 l2 L2))
  clear tA1 tA2 tL1 tL2 hr hS1 hS2
  by_cases hk : k1 = k2
  · subst hk
    by_cases hs : s1 = s2
    · subst hs
      by_cases ho : o1 = o2
      · subst ho
        by_cases ha : a1.length = a2.length
        · have hae : ((a1.length : Int) == (a2.length : Int)) = true := by rw [ha]; simp
          have HA := Lib.hid ha
          clear ha
          obtain ⟨q, hq⟩ : ∃ q, decide (l1 = l2) = q := ⟨_, rfl⟩
          have hrr : r = q := by
            rw [← hq]
            cases r with
            | true => exact (decide_eq_true (HR.out.1 rfl).2.2.2.2).symm
            | false => exact (decide_eq_false (fun e => by cases HR.out.2 ⟨rfl, rfl, rfl, HA.out, e⟩)).symm
          subst hrr
          have HQ := Lib.hid hq
          clear hq
          go_enter Try.func37, Try.ntmps37
          go_wp2_with (go_at_call 53; refine (labels_r _ S1 S2 l1 l2 L1 L2 cL1 cL2 r (HN.out _ ?_).1 (HN.out _ ?_).2 hL1 hL1m hL2 hL2m HQ.out).mono ?_; (· exact ((Below.refl _ _).alloc (Nat.le_refl _) _).alloc (by simp) _); (· exact ((Below.refl _ _).alloc (Nat.le_refl _) _).alloc (by simp) _); rintro e w' ⟨rfl, n, rfl⟩)
          go_ret
          exact ⟨rfl, Below.drewN'' (((Below.refl _ _).alloc (Nat.le_refl _) _).alloc (by simp) _) _⟩
        · have hae : ((a1.length : Int) == (a2.length : Int)) = false := by rw [beq_eq_false_iff_ne]; omega
          have hrr : r = false := by
            cases r with
            | false => rfl
            | true => exact absurd (HR.out.1 rfl).2.2.2.1 ha
          subst hrr
          go_enter Try.func37, Try.ntmps37
          go_wp2
          go_ret
          exact ⟨rfl, by exact ((Below.refl _ _).alloc (Nat.le_refl _) _).alloc (by simp) _⟩
      · have hoe : (o1 == o2) = false := by cases o1 <;> cases o2 <;> first | rfl | exact absurd rfl ho
        have hrr : r = false := by
          cases r with
          | false => rfl
          | true => exact absurd (HR.out.1 rfl).2.2.1 ho
        subst hrr
        go_enter Try.func37, Try.ntmps37
        go_wp2
        go_ret
        exact ⟨rfl, by exact ((Below.refl _ _).alloc (Nat.le_refl _) _).alloc (by simp) _⟩
    · have hb0 : (s1.toList == s2.toList) = false := by rw [bytes_eq, decide_eq_false hs]
      have hrr : r = false := by
        cases r with
        | false => rfl
        | true => exact absurd (HR.out.1 rfl).2.1 hs
      subst hrr
      go_enter Try.func37, Try.ntmps37
      go_wp2
      go_ret
      exact ⟨rfl, by exact ((Below.refl _ _).alloc (Nat.le_refl _) _).alloc (by simp) _⟩
  · have hrr : r = false := by
      cases r with
      | false => rfl
      | true => exact absurd (HR.out.1 rfl).1 hk
    subst hrr
    go_enter Try.func37, Try.ntmps37
    go_wp2
    go_ret
    exact ⟨rfl, by exact ((Below.refl _ _).alloc (Nat.le_refl _) _).alloc (by simp) _⟩

end Go.Proofs.Ytnhdgndjpkdhdaa
namespace Go.Proofs.Ytnhdgndjpkdhdaa
open Go.RowKit

theorem Below.drewN' {B : Nat} {a w : World} (h : Below B a w) (n : Nat) : Below B a (w.drewN n) := ⟨h.os, h.tape, h.output, h.size, h.block⟩
def argsOfB (l : List UInt8) : Option Nat :=
  if l = [105, 110, 116] ∨ l = [98, 111, 111, 108] ∨ l = [115, 116, 114, 105, 110, 103] ∨ l = [117, 110, 105, 116] then some 0
  else if l = [45, 62] ∨ l = [42] then some 2 else none

def namesB (l : List ByteArray) : Bool := l.all fun s => Pl.nameB s.data.toList

theorem namesB_drop (l : List ByteArray) (k : Nat) (hk : k < l.length) : namesB (l.drop k) = (Pl.nameB l[k].data.toList && namesB (l.drop (k + 1))) := by
  rw [List.drop_eq_getElem_cons hk]; rfl

def risesB : List ByteArray → Bool
  | a :: b :: r => Op.bytesLess a.toList b.toList && risesB (b :: r)
  | _ => true

theorem risesB_drop (l : List ByteArray) (k : Nat) (hk : k + 1 < l.length) : risesB (l.drop k) = (Op.bytesLess l[k].toList l[k + 1].toList && risesB (l.drop (k + 1))) := by
  rw [List.drop_eq_getElem_cons (by omega), List.drop_eq_getElem_cons hk]
  rfl
theorem risesB_end (l : List ByteArray) (k : Nat) (hk : l.length ≤ k + 1) : risesB (l.drop k) = true := by
  rcases h : l.drop k with _ | ⟨a, r⟩
  · rfl
  · have : (l.drop k).length ≤ 1 := by simp; omega
    rw [h] at this
    have : r = [] := by cases r; rfl; simp at this
    subst this; rfl

theorem ilen0 {α : Type} (l : List α) : ((l.length : Int) == 0) = decide (l = []) := by
  cases l with
  | nil => rfl
  | cons a r => simp only [List.length_cons, reduceCtorEq, decide_false]; rw [beq_eq_false_iff_ne]; omega
theorem ilenz {α : Type} (l : List α) : ((0 : Int) == (l.length : Int)) = decide (l = []) := by rw [Bool.beq_comm]; exact ilen0 l
theorem ilenk (n : Nat) (k : Nat) : ((n : Int) == (k : Int)) = decide (n = k) := by
  by_cases h : n = k
  · simp [h]
  · rw [decide_eq_false h, beq_eq_false_iff_ne]; omega
theorem ilen1 (n : Nat) : ((n : Int) == 1) = decide (n = 1) := ilenk n 1
theorem ilen2 (n : Nat) : ((n : Int) == 2) = decide (n = 2) := ilenk n 2
theorem ilenc (n k : Nat) : ((n : Int) == (k : Int)) = decide (k = n) := by rw [ilenk]; by_cases h : n = k <;> simp [h, eq_comm]
theorem tl_nil (s : ByteArray) : s.toList = [] ↔ s.size = 0 := by
  constructor
  · intro h; rw [Lib.toList_data] at h; have := congrArg List.length h; simpa using this
  · exact toList_nil s


/-- Whether a node's own fields are as its kind has them. -/
def RNd.own (x : RNd) : Bool :=
  if x.kind = 1 then (decide (x.name.size = 0) && (decide (x.args = []) && (decide (x.labels = []) && !x.op))) else
  if x.kind = 2 then ((argsOfB x.name.toList).isSome && (decide (x.args.length = (argsOfB x.name.toList).getD 0) && (decide (x.labels = []) && !x.op))) else
  if x.kind = 3 then (decide (x.labels.length = x.args.length) && decide (x.name.size = 0) && (namesB x.labels && risesB x.labels)) else
  false
def RNd.ok (N : Nat) (x : RNd) : Bool := x.within N && x.own
theorem within_drop (N : Nat) (l : List Int) (k : Nat) (h : k < l.length) : ((l.drop k).all fun a => decide (0 ≤ a) && decide (a < N)) = ((decide (0 ≤ l[k]) && decide (l[k] < N)) && ((l.drop (k + 1)).all fun a => decide (0 ≤ a) && decide (a < N))) := by
  rw [List.drop_eq_getElem_cons h]; rfl

set_option maxRecDepth 100000 in
set_option maxHeartbeats 2000000 in
theorem gmay_r (w : World) (S : Nat → Prop) (x : RNd) (v : Value) (N : Nat) (r : Bool) (_hN : N ≤ 1000000000) (hS : ∀ k, S k → k < w.heap.size) (he : NdV w S x v) (hr : x.ok N = r) :
    Calls Try.prog 60 #[v, .int .i64 N] w fun e w' => e = .returned (.bool r) ∧ Below w.heap.size w w' := by
  obtain ⟨fk, fs, fargs, flabels, fop⟩ := x
  obtain ⟨aA, cA, aL, cL, rfl, hs, hA, hA9, hL1, hL9, oA, oL⟩ := he
  simp only [] at hs hA hL1 oA oL
  have HOA := Lib.hid oA
  have HOL := Lib.hid oL
  clear oA oL
  go_enter Try.func60, Try.ntmps60
  obtain ⟨q, hq⟩ : ∃ q, RNd.own ⟨fk, fs, fargs, flabels, fop⟩ = q := ⟨_, rfl⟩
  have hqr : (q && (fargs.all fun a => decide (0 ≤ a) && decide (a < N))) = r := by rw [← hr, ← hq, RNd.ok, RNd.within, Bool.and_comm]
  have HQR := Lib.hid hqr
  have HQ := Lib.hid hq
  clear hqr hq hr
  have hs9 : fs.size ≤ maxLen := hs
  have hL99 : cL ≤ maxLen := hL9
  unfold maxLen at hA9 hL9
  go_wp2
  obtain ⟨w1, hw1⟩ : ∃ w1, w1 = w.alloc (.cells #[.int .i64 fk, .string fs, .slice aA fargs.length cA, .slice aL flabels.length cL, .bool fop] 37) := ⟨_, rfl⟩
  have hsz1 : w1.heap.size = w.heap.size + 1 := by rw [hw1]; simp
  have hbw : ∀ W, Below w1.heap.size w1 W → Below w.heap.size w W := fun W hW => ((Below.refl _ w).alloc (Nat.le_refl _) _).trans (hw1 ▸ hW.mono (by omega))
  have hrow : ∀ W, Below w1.heap.size w1 W → ∀ j, W.cell? ⟨w.heap.size, j, none⟩ = (#[.int .i64 fk, .string fs, .slice aA fargs.length cA, .slice aL flabels.length cL, .bool fop] : Array Value)[j]? := fun W hW j =>
    cell_of_row W _ j _ _ _ ((hW.block _ (by omega)).trans (by rw [hw1]; exact heap_alloc_new w _))
  have HRow := Lib.hid hrow
  have HBw := Lib.hid hbw
  rw [← hw1]
  clear hbw hw1 hsz1 hrow
  go_loopw [6, 12] (fun _ i wr => ∃ k n : Nat, i = .int .i64 k ∧ k ≤ fargs.length ∧ (q && ((fargs.drop k).all fun a => decide (0 ≤ a) && decide (a < N))) = r ∧ wr = w1.drewN n) (fun _ i _ => fargs.length - (intOf i).toNat)
  case atStart => exact ⟨0, 0, rfl, Nat.zero_le _, by rw [List.drop_zero]; exact HQR.out, rfl⟩
  case round =>
    obtain ⟨k, n, rfl, hk, hq, rfl⟩ := hrel
    have Hq := Lib.hid hq
    have HB := Lib.hid (Below.drewN' (Below.refl _ _) n : Below w1.heap.size w1 (w1.drewN n))
    clear hq
    by_cases hlt : k < fargs.length
    · obtain ⟨bm, om, rfl, _, hcell⟩ := IntsO.get _ _ (IntsO.keep (fun k hk => ⟨hk, (HBw.out _ HB.out).block k (hS k hk)⟩) _ _ HOA.out) k hlt
      have hd := within_drop N fargs k hlt
      obtain ⟨m, hm⟩ : ∃ m, m = fargs[k] := ⟨_, rfl⟩
      rw [← hm] at hcell hd
      have hq := Hq.out
      rw [hd] at hq
      clear hm hd
      by_cases h0 : 0 ≤ m
      · by_cases h1 : m < N
        · have h0' : ¬ m < 0 := by omega
          have h1' : ¬ (N : Int) ≤ m := by omega
          have hq' : (q && ((fargs.drop (k + 1)).all fun a => decide (0 ≤ a) && decide (a < N))) = r := by rw [← hq]; simp [h0, h1]
          have HQ' := Lib.hid hq'
          clear hq hq'
          go_wp2
          go_roundw
          case rel => exact ⟨k + 1, n, by go_num, by omega, HQ'.out, rfl⟩
          case measure => simp [intOf]; omega
        · have hrr : false = r := by rw [← hq]; simp [h1]
          subst hrr
          have h0' : ¬ m < 0 := by omega
          have h1' : (N : Int) ≤ m := by omega
          clear hq
          go_wp2
          go_ret
          exact ⟨rfl, HBw.out _ HB.out⟩
      · have hrr : false = r := by rw [← hq]; simp [h0]
        subst hrr
        have h0' : m < 0 := by omega
        clear hq
        go_wp2
        go_ret
        exact ⟨rfl, HBw.out _ HB.out⟩
    · have hk' : k = fargs.length := by omega
      have hqq : q = r := by have := Hq.out; rw [hk', List.drop_length] at this; simpa using this
      subst hqq
      clear hk' Hq HQR
      obtain ⟨wT, hwT⟩ : ∃ wT, wT = w1.drewN n := ⟨_, rfl⟩
      rw [← hwT] at HB ⊢
      have hrw := HRow.out wT HB.out
      obtain ⟨c0, c1, c2, c3, c4⟩ := (⟨hrw 0, hrw 1, hrw 2, hrw 3, hrw 4⟩ : _ ∧ _ ∧ _ ∧ _ ∧ _)
      simp only [List.getElem?_toArray, List.getElem?_cons_zero, List.getElem?_cons_succ] at c0 c1 c2 c3 c4
      clear hrw HRow hwT
      by_cases hk1 : fk = 1
      · subst hk1
        have hqq : q = (decide (fs.size = 0) && (decide (fargs = []) && (decide (flabels = []) && !fop))) := by rw [← HQ.out]; simp [RNd.own]
        have HQQ := Lib.hid hqq
        clear hqq
        go_wp2
        all_goals go_ret
        all_goals refine ⟨ret_bool ?_, HBw.out _ HB.out⟩
        all_goals rw [HQQ.out]
        all_goals clear HQQ HQ
        all_goals go_light
        all_goals simp_all [tl_nil]
      by_cases hk2 : fk = 2
      · subst hk2
        have hqq : q = ((argsOfB fs.toList).isSome && (decide (fargs.length = (argsOfB fs.toList).getD 0) && (decide (flabels = []) && !fop))) := by rw [← HQ.out]; simp [RNd.own]
        have hlc : ((0 : Int) < (flabels.length : Int) ∧ flabels ≠ []) ∨ (¬ (0 : Int) < (flabels.length : Int) ∧ flabels = []) := by
          cases flabels with
          | nil => exact .inr ⟨by simp, rfl⟩
          | cons a r => exact .inl ⟨by simp only [List.length_cons]; omega, by simp⟩
        have HQQ := Lib.hid hqq
        clear hqq
        rcases hlc with ⟨h1, h2⟩ | ⟨h1, h2⟩
        · have hqf : q = false := by rw [HQQ.out]; simp [h2]
          subst hqf
          go_wp2
          all_goals go_ret
          all_goals exact ⟨rfl, HBw.out _ HB.out⟩
        · subst h2
          go_wp2
          all_goals go_ret
          all_goals refine ⟨ret_bool ?_, HBw.out _ HB.out⟩
          all_goals rw [HQQ.out]
          all_goals clear HQQ HQ
          all_goals go_light
          all_goals (try simp_all [argsOfB, ilen2])
          by_cases h : fs.toList = [117, 110, 105, 116] <;> simp_all
      by_cases hk3 : fk = 3
      · subst hk3
        obtain ⟨G, hG⟩ : ∃ G, (decide (flabels.length = fargs.length) && decide (fs.size = 0)) = G := ⟨_, rfl⟩
        have hqq : (G && (namesB flabels && risesB flabels)) = q := by rw [← HQ.out, ← hG]; simp [RNd.own]
        have HQQ := Lib.hid hqq
        have HG := Lib.hid hG
        clear hqq hG hk1 hk2 HQ
        go_wp2
        go_loopw [7, 8, 99] (fun _ _ i wn => ∃ k n : Nat, i = .int .i64 k ∧ k ≤ flabels.length ∧ (G && (namesB (flabels.drop k) && risesB (flabels.drop (k - 1)))) = q ∧ wn = wT.drewN n) (fun _ _ i _ => flabels.length - (intOf i).toNat)
        case atStart => exact ⟨0, 0, rfl, Nat.zero_le _, by simpa using HQQ.out, rfl⟩
        case round =>
          obtain ⟨k, n, rfl, hk, hq, rfl⟩ := hrel
          have Hq := Lib.hid hq
          clear hq
          by_cases hlt2 : k < flabels.length
          · obtain ⟨bl, ol, rfl, _, hcell, hsz⟩ := StrsO.get _ _ (StrsO.keep (fun k hk => ⟨hk, (HBw.out _ HB.out).block k (hS k hk)⟩) _ _ HOL.out) k hlt2
            have hd := namesB_drop flabels k hlt2
            have hq := Hq.out
            rw [hd] at hq
            obtain ⟨s, hs'⟩ : ∃ s, s = flabels[k] := ⟨_, rfl⟩
            rw [← hs'] at hcell hsz hq
            rcases hn : Pl.nameB s.data.toList with _ | _
            · have hrr : false = q := by rw [← hq, hn]; simp
              subst hrr
              have HN := Lib.hid hn
              clear hn hd hs' hq
              go_wp2_with (go_at_call 69; refine (rIsName_r s _ HN.out _ hsz).mono ?_; rintro e w' ⟨rfl, rfl⟩)
              go_ret
              exact ⟨rfl, HBw.out _ (Below.drewN' HB.out _)⟩
            · rw [hn, Bool.true_and] at hq
              have HN := Lib.hid hn
              clear hn hd
              cases k with
              | zero =>
                simp only [Nat.add_zero] at hcell
                have HQ' := Lib.hid hq
                clear hs' hq
                go_wp2_with (go_at_call 69; refine (rIsName_r s _ HN.out _ hsz).mono ?_; rintro e w' ⟨rfl, rfl⟩)
                go_roundw
                case rel => exact ⟨1, n, by go_num, by omega, HQ'.out, rfl⟩
                case measure => simp [intOf]; omega
              | succ j =>
                obtain ⟨bl', ol', e', _, hcell', hsz'⟩ := StrsO.get _ _ (StrsO.keep (fun k hk => ⟨hk, (HBw.out _ HB.out).block k (hS k hk)⟩) _ _ HOL.out) j (by omega)
                simp only [Option.some.injEq, Addr.mk.injEq, and_true] at e'
                obtain ⟨rfl, rfl⟩ := e'
                have hrd := risesB_drop flabels j hlt2
                rw [Nat.add_sub_cancel, hrd] at hq
                obtain ⟨t, ht⟩ : ∃ t, t = flabels[j] := ⟨_, rfl⟩
                rw [← hs', ← ht] at hq
                rw [← ht] at hcell' hsz'
                rcases hl : Op.bytesLess t.toList s.toList with _ | _
                · have hrr : false = q := by rw [← hq, hl]; simp
                  subst hrr
                  clear hs' ht hrd hq
                  go_wp2_with (go_at_call 69; refine (rIsName_r s _ HN.out _ hsz).mono ?_; rintro e w' ⟨rfl, rfl⟩)
                  go_ret
                  exact ⟨rfl, HBw.out _ (Below.drewN' HB.out _)⟩
                · rw [hl, Bool.true_and] at hq
                  have HQ' := Lib.hid hq
                  clear hs' ht hrd hq
                  go_wp2_with (go_at_call 69; refine (rIsName_r s _ HN.out _ hsz).mono ?_; rintro e w' ⟨rfl, rfl⟩)
                  go_roundw
                  case rel => exact ⟨j + 1 + 1, _, by go_num, by omega, HQ'.out, rfl⟩
                  case measure => simp [intOf]; omega
          · have hk' : k = flabels.length := by omega
            have hGq : G = q := by
              rw [← Hq.out, hk', List.drop_length, risesB_end flabels _ (by omega)]
              simp [namesB]
            subst hGq
            clear hk'
            go_wp2
            all_goals go_ret
            all_goals refine ⟨ret_bool ?_, HBw.out _ (Below.drewN' HB.out _)⟩
            all_goals rw [← HG.out]
            all_goals clear HG HQQ Hq
            all_goals go_light
            all_goals simp_all [ilenk, tl_nil]
      · have hqf : q = false := by rw [← HQ.out]; simp [RNd.own, hk1, hk2, hk3]
        subst hqf
        go_wp2
        all_goals go_ret
        all_goals exact ⟨rfl, HBw.out _ HB.out⟩
end Go.Proofs.Ytnhdgndjpkdhdaa
namespace Go.Proofs.Ytnhdgndjpkdhdaa
open Go.RowKit

/-- Whether a graph may be. -/
def RGr.ok (g : RGr) : Bool := decide (g.nodes.length ≤ 1048576) && (decide (0 ≤ g.root) && decide (g.root < g.nodes.length) && g.nodes.all (RNd.ok g.nodes.length))
/-- What Check answers. -/
def RGr.code (g : RGr) : Int := if 1048576 < g.nodes.length then 3 else if g.ok = true then 0 else 2
theorem RGr.ok_len {g : RGr} (h : g.ok = true) : g.nodes.length ≤ 1048576 := by
  simp only [RGr.ok, Bool.and_eq_true, decide_eq_true_eq] at h
  exact h.1
theorem RGr.code_ok {g : RGr} (h : g.ok = true) : g.code = 0 := by
  have := RGr.ok_len h
  unfold RGr.code
  rw [if_neg (by omega), if_pos h]
theorem RGr.code_no {g : RGr} (h : g.ok = false) : g.code = 3 ∨ g.code = 2 := by
  unfold RGr.code
  rw [h]
  by_cases h1 : 1048576 < g.nodes.length
  · rw [if_pos h1]; exact .inl rfl
  · rw [if_neg h1]; exact .inr rfl
theorem RGr.ok_fit {g : RGr} (h : g.ok = true) : g.gr.Fit := by
  simp only [RGr.ok, Bool.and_eq_true, decide_eq_true_eq] at h
  refine RGr.fit h.2.1 ?_
  rw [List.all_eq_true]
  intro x hx
  have := List.all_eq_true.1 h.2.2 x hx
  simp only [RNd.ok, Bool.and_eq_true] at this
  exact this.1

set_option maxRecDepth 100000 in
set_option maxHeartbeats 2000000 in
theorem gcheck_r (w : World) (S : Nat → Prop) (g : RGr) (v : Value) (hS : ∀ k, S k → k < w.heap.size) (he : GrV w S g v) :
    Calls Try.prog 44 #[v] w fun e w' => e = .returned (.int .i64 g.code) ∧ Below w.heap.size w w' := by
  obtain ⟨nodes, root⟩ := g
  obtain ⟨A, c, rfl, hc, hc9, oN⟩ := he
  simp only [] at hc oN
  have HON := Lib.hid oN
  clear oN
  by_cases hbig : 1048576 < nodes.length
  · have hcode : RGr.code ⟨nodes, root⟩ = 3 := by unfold RGr.code; exact if_pos hbig
    rw [hcode]
    have hlo : (1048576 : Int) < (nodes.length : Int) := by omega
    unfold maxLen at hc9
    go_enter Try.func44, Try.ntmps44
    go_wp2
    go_ret
    exact ⟨rfl, (Below.refl _ _).alloc (Nat.le_refl _) _⟩
  have hcode : RGr.code ⟨nodes, root⟩ = if RGr.ok ⟨nodes, root⟩ = true then 0 else 2 := by unfold RGr.code; exact if_neg hbig
  rw [hcode]
  clear hcode
  obtain ⟨r, hr⟩ : ∃ r, RGr.ok ⟨nodes, root⟩ = r := ⟨_, rfl⟩
  rw [hr]
  simp only [RGr.ok, decide_eq_true (by omega : nodes.length ≤ 1048576), Bool.true_and] at hr
  have hlo : ¬ (1048576 : Int) < (nodes.length : Int) := by omega
  by_cases h0 : 0 ≤ root
  · by_cases h1 : root < nodes.length
    · have hr' : nodes.all (RNd.ok nodes.length) = r := by rw [← hr]; simp [h0, h1]
      have h0' : ¬ root < 0 := by omega
      have h1' : ¬ (nodes.length : Int) ≤ root := by omega
      have HR := Lib.hid hr'
      clear hr hr'
      unfold maxLen at hc9
      go_enter Try.func44, Try.ntmps44
      go_wp2
      obtain ⟨w1, hw1⟩ : ∃ w1, w1 = w.alloc (.cells #[.slice A nodes.length c, .int .i64 root] 24) := ⟨_, rfl⟩
      have hsz1 : w1.heap.size = w.heap.size + 1 := by rw [hw1]; simp
      have hb1 : Below w.heap.size w w1 := by rw [hw1]; exact (Below.refl _ _).alloc (Nat.le_refl _) _
      have hbw : ∀ W, Below w1.heap.size w1 W → Below w.heap.size w W := fun W hW => hb1.trans (hW.mono (by omega))
      have hrow : ∀ W, Below w1.heap.size w1 W → W.cell? ⟨w.heap.size, 0, none⟩ = some (.slice A nodes.length c) := fun W hW =>
        cell_of_row W w.heap.size 0 _ _ _ ((hW.block w.heap.size (by omega)).trans (by rw [hw1]; exact heap_alloc_new w _))
      have HRow := Lib.hid hrow
      have HBw := Lib.hid hbw
      rw [← hw1]
      clear hbw hw1 hsz1 hrow hb1
      go_loopw [4, 23] (fun _ i wr => ∃ k : Nat, i = .int .i64 k ∧ k ≤ nodes.length ∧ (nodes.drop k).all (RNd.ok nodes.length) = r ∧ Below w1.heap.size w1 wr) (fun _ i _ => nodes.length - (intOf i).toNat)
      case atStart => exact ⟨0, rfl, Nat.zero_le _, by rw [List.drop_zero]; exact HR.out, Below.refl _ _⟩
      case round =>
        obtain ⟨k, rfl, hk, hq, hb⟩ := hrel
        have Hq := Lib.hid hq
        have HB := Lib.hid hb
        clear hq hb
        by_cases hlt : k < nodes.length
        · obtain ⟨bm, om, rfl, hmp⟩ := NdsO.get _ _ (NdsO.keep (fun k hk => ⟨hk, (HBw.out _ HB.out).block k (hS k hk)⟩) _ _ HON.out) k hlt
          have hd : (nodes.drop k).all (RNd.ok nodes.length) = (RNd.ok nodes.length nodes[k] && (nodes.drop (k + 1)).all (RNd.ok nodes.length)) := by rw [List.drop_eq_getElem_cons hlt]; rfl
          obtain ⟨x, hx⟩ : ∃ m, m = nodes[k] := ⟨_, rfl⟩
          rw [← hx] at hmp hd
          have hq := Hq.out
          rw [hd] at hq
          obtain ⟨xA, yA, xL, yL, f0, f1, f2, f3, f4, hv⟩ := hmp.val
          have hSr : ∀ k, S k → k < wr.heap.size := fun k hk => Nat.lt_of_lt_of_le (hS k hk) (HBw.out _ HB.out).size
          have hV : NdV wr S x (.agg #[.int .i64 x.kind, .string x.name, .slice xA x.args.length yA, .slice xL x.labels.length yL, .bool x.op]) := ⟨xA, yA, xL, yL, rfl, hv.1, hv.2.1, hv.2.2.1, hv.2.2.2.1, hv.2.2.2.2.1, hv.2.2.2.2.2.1, hv.2.2.2.2.2.2.1⟩
          have HV := Lib.hid hV
          have c0 := HRow.out (wr.alloc (.cells #[.int .i64 x.kind, .string x.name, .slice xA x.args.length yA, .slice xL x.labels.length yL, .bool x.op] 37)) (HB.out.alloc HB.out.size _)
          clear hx hmp hv hV hd
          rcases hc' : x.ok nodes.length with _ | _
          · have hrr : false = r := by rw [← hq, hc']; rfl
            subst hrr
            have HC := Lib.hid hc'
            clear hc' hq
            go_wp2_with (go_at_call 60; refine (gmay_r _ S x _ nodes.length false (by omega) (fun k hk => by have := hSr k hk; simp; omega) (NdV.keep (fun k hk => ⟨hk, Below.heap_alloc _ _ _ (hSr k hk)⟩) HV.out) HC.out).mono ?_; rintro e w' ⟨rfl, hb2⟩; have HB2 := Lib.hid hb2; clear hb2)
            go_ret
            exact ⟨rfl, HBw.out _ ((HB.out.alloc HB.out.size _).trans (HB2.out.mono (by have := HB.out.size; simp; omega)))⟩
          · rw [hc', Bool.true_and] at hq
            have HC := Lib.hid hc'
            have HQ' := Lib.hid hq
            clear hc' hq
            go_wp2_with (go_at_call 60; refine (gmay_r _ S x _ nodes.length true (by omega) (fun k hk => by have := hSr k hk; simp; omega) (NdV.keep (fun k hk => ⟨hk, Below.heap_alloc _ _ _ (hSr k hk)⟩) HV.out) HC.out).mono ?_; rintro e w' ⟨rfl, hb2⟩; have HB2 := Lib.hid hb2; clear hb2)
            go_roundw
            case rel => exact ⟨k + 1, by go_num, by omega, HQ'.out, (HB.out.alloc HB.out.size _).trans (HB2.out.mono (by have := HB.out.size; simp; omega))⟩
            case measure => simp [intOf]; omega
        · have hk' : k = nodes.length := by omega
          have hrr : true = r := by rw [← Hq.out, hk', List.drop_length]; rfl
          subst hrr
          clear hk'
          go_wp2
          go_ret
          exact ⟨rfl, HBw.out _ HB.out⟩
    · have hrr : r = false := by rw [← hr]; simp [h1]
      subst hrr
      have h0' : ¬ root < 0 := by omega
      have h1' : (nodes.length : Int) ≤ root := by omega
      clear hr
      go_enter Try.func44, Try.ntmps44
      go_wp2
      go_ret
      exact ⟨rfl, (Below.refl _ _).alloc (Nat.le_refl _) _⟩
  · have hrr : r = false := by rw [← hr]; simp [h0]
    subst hrr
    have h0' : root < 0 := by omega
    clear hr
    go_enter Try.func44, Try.ntmps44
    go_wp2
    go_ret
    exact ⟨rfl, (Below.refl _ _).alloc (Nat.le_refl _) _⟩
end Go.Proofs.Ytnhdgndjpkdhdaa
