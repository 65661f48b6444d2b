/-
  trefoilref06.may.
-/
import Derived.Test.YtnhdgndjpkdhdaaGRef1
namespace Go.Proofs.Ytnhdgndjpkdhdaa
open Go.RowKit

theorem Below.drewN' {B : Nat} {a w : World} (h : Below B a w) (n : Nat) : Below B a (w.drewN n) := ⟨h.os, h.tape, h.output, h.size, h.block⟩
def argsOfB (l : List UInt8) : Option Nat :=
  if l = [105, 110, 116] ∨ l = [98, 111, 111, 108] ∨ l = [115, 116, 114, 105, 110, 103] ∨ l = [117, 110, 105, 116] then some 0
  else if l = [45, 62] ∨ l = [42] then some 2 else none

def namesB (l : List ByteArray) : Bool := l.all fun s => Pl.nameB s.data.toList

theorem namesB_drop (l : List ByteArray) (k : Nat) (hk : k < l.length) : namesB (l.drop k) = (Pl.nameB l[k].data.toList && namesB (l.drop (k + 1))) := by
  rw [List.drop_eq_getElem_cons hk]; rfl

def risesB : List ByteArray → Bool
  | a :: b :: r => Op.bytesLess a.toList b.toList && risesB (b :: r)
  | _ => true

theorem risesB_drop (l : List ByteArray) (k : Nat) (hk : k + 1 < l.length) : risesB (l.drop k) = (Op.bytesLess l[k].toList l[k + 1].toList && risesB (l.drop (k + 1))) := by
  rw [List.drop_eq_getElem_cons (by omega), List.drop_eq_getElem_cons hk]
  rfl
theorem risesB_end (l : List ByteArray) (k : Nat) (hk : l.length ≤ k + 1) : risesB (l.drop k) = true := by
  rcases h : l.drop k with _ | ⟨a, r⟩
  · rfl
  · have : (l.drop k).length ≤ 1 := by simp; omega
    rw [h] at this
    have : r = [] := by cases r; rfl; simp at this
    subst this; rfl

theorem ilen0 {α : Type} (l : List α) : ((l.length : Int) == 0) = decide (l = []) := by
  cases l with
  | nil => rfl
  | cons a r => simp only [List.length_cons, reduceCtorEq, decide_false]; rw [beq_eq_false_iff_ne]; omega
theorem ilenz {α : Type} (l : List α) : ((0 : Int) == (l.length : Int)) = decide (l = []) := by rw [Bool.beq_comm]; exact ilen0 l
theorem ilenk (n : Nat) (k : Nat) : ((n : Int) == (k : Int)) = decide (n = k) := by
  by_cases h : n = k
  · simp [h]
  · rw [decide_eq_false h, beq_eq_false_iff_ne]; omega
theorem ilen1 (n : Nat) : ((n : Int) == 1) = decide (n = 1) := ilenk n 1
theorem ilen2 (n : Nat) : ((n : Int) == 2) = decide (n = 2) := ilenk n 2
theorem ilenc (n k : Nat) : ((n : Int) == (k : Int)) = decide (k = n) := by rw [ilenk]; by_cases h : n = k <;> simp [h, eq_comm]
theorem tl_nil (s : ByteArray) : s.toList = [] ↔ s.size = 0 := by
  constructor
  · intro h; rw [Lib.toList_data] at h; have := congrArg List.length h; simpa using this
  · exact toList_nil s


/-- Whether a node's own fields are as its kind has them. -/
def RNd.own (x : RNd) : Bool :=
  if x.kind = 1 then (decide (x.name.size = 0) && (decide (x.args = []) && (decide (x.labels = []) && !x.op))) else
  if x.kind = 2 then ((argsOfB x.name.toList).isSome && (decide (x.args.length = (argsOfB x.name.toList).getD 0) && (decide (x.labels = []) && !x.op))) else
  if x.kind = 3 then (decide (x.labels.length = x.args.length) && decide (x.name.size = 0) && (namesB x.labels && risesB x.labels)) else
  false
def RNd.ok (N : Nat) (x : RNd) : Bool := x.within N && x.own
theorem within_drop (N : Nat) (l : List Int) (k : Nat) (h : k < l.length) : ((l.drop k).all fun a => decide (0 ≤ a) && decide (a < N)) = ((decide (0 ≤ l[k]) && decide (l[k] < N)) && ((l.drop (k + 1)).all fun a => decide (0 ≤ a) && decide (a < N))) := by
  rw [List.drop_eq_getElem_cons h]; rfl

set_option maxRecDepth 100000 in
set_option maxHeartbeats 2000000 in
theorem gmay_r (w : World) (S : Nat → Prop) (x : RNd) (v : Value) (N : Nat) (r : Bool) (_hN : N ≤ 1000000000) (hS : ∀ k, S k → k < w.heap.size) (he : NdV w S x v) (hr : x.ok N = r) :
    Calls Try.prog 60 #[v, .int .i64 N] w fun e w' => e = .returned (.bool r) ∧ Below w.heap.size w w' := by
  obtain ⟨fk, fs, fargs, flabels, fop⟩ := x
  obtain ⟨aA, cA, aL, cL, rfl, hs, hA, hA9, hL1, hL9, oA, oL⟩ := he
  simp only [] at hs hA hL1 oA oL
  have HOA := Lib.hid oA
  have HOL := Lib.hid oL
  clear oA oL
  go_enter Try.func60, Try.ntmps60
  obtain ⟨q, hq⟩ : ∃ q, RNd.own ⟨fk, fs, fargs, flabels, fop⟩ = q := ⟨_, rfl⟩
  have hqr : (q && (fargs.all fun a => decide (0 ≤ a) && decide (a < N))) = r := by rw [← hr, ← hq, RNd.ok, RNd.within, Bool.and_comm]
  have HQR := Lib.hid hqr
  have HQ := Lib.hid hq
  clear hqr hq hr
  have hs9 : fs.size ≤ maxLen := hs
  have hL99 : cL ≤ maxLen := hL9
  unfold maxLen at hA9 hL9
  go_wp2
  obtain ⟨w1, hw1⟩ : ∃ w1, w1 = w.alloc (.cells #[.int .i64 fk, .string fs, .slice aA fargs.length cA, .slice aL flabels.length cL, .bool fop] 37) := ⟨_, rfl⟩
  have hsz1 : w1.heap.size = w.heap.size + 1 := by rw [hw1]; simp
  have hbw : ∀ W, Below w1.heap.size w1 W → Below w.heap.size w W := fun W hW => ((Below.refl _ w).alloc (Nat.le_refl _) _).trans (hw1 ▸ hW.mono (by omega))
  have hrow : ∀ W, Below w1.heap.size w1 W → ∀ j, W.cell? ⟨w.heap.size, j, none⟩ = (#[.int .i64 fk, .string fs, .slice aA fargs.length cA, .slice aL flabels.length cL, .bool fop] : Array Value)[j]? := fun W hW j =>
    cell_of_row W _ j _ _ _ ((hW.block _ (by omega)).trans (by rw [hw1]; exact heap_alloc_new w _))
  have HRow := Lib.hid hrow
  have HBw := Lib.hid hbw
  rw [← hw1]
  clear hbw hw1 hsz1 hrow
  go_loopw [6, 12] (fun _ i wr => ∃ k n : Nat, i = .int .i64 k ∧ k ≤ fargs.length ∧ (q && ((fargs.drop k).all fun a => decide (0 ≤ a) && decide (a < N))) = r ∧ wr = w1.drewN n) (fun _ i _ => fargs.length - (intOf i).toNat)
  case atStart => exact ⟨0, 0, rfl, Nat.zero_le _, by rw [List.drop_zero]; exact HQR.out, rfl⟩
  case round =>
    obtain ⟨k, n, rfl, hk, hq, rfl⟩ := hrel
    have Hq := Lib.hid hq
    have HB := Lib.hid (Below.drewN' (Below.refl _ _) n : Below w1.heap.size w1 (w1.drewN n))
    clear hq
    by_cases hlt : k < fargs.length
    · obtain ⟨bm, om, rfl, _, hcell⟩ := IntsO.get _ _ (IntsO.keep (fun k hk => ⟨hk, (HBw.out _ HB.out).block k (hS k hk)⟩) _ _ HOA.out) k hlt
      have hd := within_drop N fargs k hlt
      obtain ⟨m, hm⟩ : ∃ m, m = fargs[k] := ⟨_, rfl⟩
      rw [← hm] at hcell hd
      have hq := Hq.out
      rw [hd] at hq
      clear hm hd
      by_cases h0 : 0 ≤ m
      · by_cases h1 : m < N
        · have h0' : ¬ m < 0 := by omega
          have h1' : ¬ (N : Int) ≤ m := by omega
          have hq' : (q && ((fargs.drop (k + 1)).all fun a => decide (0 ≤ a) && decide (a < N))) = r := by rw [← hq]; simp [h0, h1]
          have HQ' := Lib.hid hq'
          clear hq hq'
          go_wp2
          go_roundw
          case rel => exact ⟨k + 1, n, by go_num, by omega, HQ'.out, rfl⟩
          case measure => simp [intOf]; omega
        · have hrr : false = r := by rw [← hq]; simp [h1]
          subst hrr
          have h0' : ¬ m < 0 := by omega
          have h1' : (N : Int) ≤ m := by omega
          clear hq
          go_wp2
          go_ret
          exact ⟨rfl, HBw.out _ HB.out⟩
      · have hrr : false = r := by rw [← hq]; simp [h0]
        subst hrr
        have h0' : m < 0 := by omega
        clear hq
        go_wp2
        go_ret
        exact ⟨rfl, HBw.out _ HB.out⟩
    · have hk' : k = fargs.length := by omega
      have hqq : q = r := by have := Hq.out; rw [hk', List.drop_length] at this; simpa using this
      subst hqq
      clear hk' Hq HQR
      obtain ⟨wT, hwT⟩ : ∃ wT, wT = w1.drewN n := ⟨_, rfl⟩
      rw [← hwT] at HB ⊢
      have hrw := HRow.out wT HB.out
      obtain ⟨c0, c1, c2, c3, c4⟩ := (⟨hrw 0, hrw 1, hrw 2, hrw 3, hrw 4⟩ : _ ∧ _ ∧ _ ∧ _ ∧ _)
      simp only [List.getElem?_toArray, List.getElem?_cons_zero, List.getElem?_cons_succ] at c0 c1 c2 c3 c4
      clear hrw HRow hwT
      by_cases hk1 : fk = 1
      · subst hk1
        have hqq : q = (decide (fs.size = 0) && (decide (fargs = []) && (decide (flabels = []) && !fop))) := by rw [← HQ.out]; simp [RNd.own]
        have HQQ := Lib.hid hqq
        clear hqq
        go_wp2
        all_goals go_ret
        all_goals refine ⟨ret_bool ?_, HBw.out _ HB.out⟩
        all_goals rw [HQQ.out]
        all_goals clear HQQ HQ
        all_goals go_light
        all_goals simp_all [tl_nil]
      by_cases hk2 : fk = 2
      · subst hk2
        have hqq : q = ((argsOfB fs.toList).isSome && (decide (fargs.length = (argsOfB fs.toList).getD 0) && (decide (flabels = []) && !fop))) := by rw [← HQ.out]; simp [RNd.own]
        have hlc : ((0 : Int) < (flabels.length : Int) ∧ flabels ≠ []) ∨ (¬ (0 : Int) < (flabels.length : Int) ∧ flabels = []) := by
          cases flabels with
          | nil => exact .inr ⟨by simp, rfl⟩
          | cons a r => exact .inl ⟨by simp only [List.length_cons]; omega, by simp⟩
        have HQQ := Lib.hid hqq
        clear hqq
        rcases hlc with ⟨h1, h2⟩ | ⟨h1, h2⟩
        · have hqf : q = false := by rw [HQQ.out]; simp [h2]
          subst hqf
          go_wp2
          all_goals go_ret
          all_goals exact ⟨rfl, HBw.out _ HB.out⟩
        · subst h2
          go_wp2
          all_goals go_ret
          all_goals refine ⟨ret_bool ?_, HBw.out _ HB.out⟩
          all_goals rw [HQQ.out]
          all_goals clear HQQ HQ
          all_goals go_light
          all_goals (try simp_all [argsOfB, ilen2])
          by_cases h : fs.toList = [117, 110, 105, 116] <;> simp_all
      by_cases hk3 : fk = 3
      · subst hk3
        obtain ⟨G, hG⟩ : ∃ G, (decide (flabels.length = fargs.length) && decide (fs.size = 0)) = G := ⟨_, rfl⟩
        have hqq : (G && (namesB flabels && risesB flabels)) = q := by rw [← HQ.out, ← hG]; simp [RNd.own]
        have HQQ := Lib.hid hqq
        have HG := Lib.hid hG
        clear hqq hG hk1 hk2 HQ
        go_wp2
        go_loopw [7, 8, 99] (fun _ _ i wn => ∃ k n : Nat, i = .int .i64 k ∧ k ≤ flabels.length ∧ (G && (namesB (flabels.drop k) && risesB (flabels.drop (k - 1)))) = q ∧ wn = wT.drewN n) (fun _ _ i _ => flabels.length - (intOf i).toNat)
        case atStart => exact ⟨0, 0, rfl, Nat.zero_le _, by simpa using HQQ.out, rfl⟩
        case round =>
          obtain ⟨k, n, rfl, hk, hq, rfl⟩ := hrel
          have Hq := Lib.hid hq
          clear hq
          by_cases hlt2 : k < flabels.length
          · obtain ⟨bl, ol, rfl, _, hcell, hsz⟩ := StrsO.get _ _ (StrsO.keep (fun k hk => ⟨hk, (HBw.out _ HB.out).block k (hS k hk)⟩) _ _ HOL.out) k hlt2
            have hd := namesB_drop flabels k hlt2
            have hq := Hq.out
            rw [hd] at hq
            obtain ⟨s, hs'⟩ : ∃ s, s = flabels[k] := ⟨_, rfl⟩
            rw [← hs'] at hcell hsz hq
            rcases hn : Pl.nameB s.data.toList with _ | _
            · have hrr : false = q := by rw [← hq, hn]; simp
              subst hrr
              have HN := Lib.hid hn
              clear hn hd hs' hq
              go_wp2_with (go_at_call 69; refine (rIsName_r s _ HN.out _ hsz).mono ?_; rintro e w' ⟨rfl, rfl⟩)
              go_ret
              exact ⟨rfl, HBw.out _ (Below.drewN' HB.out _)⟩
            · rw [hn, Bool.true_and] at hq
              have HN := Lib.hid hn
              clear hn hd
              cases k with
              | zero =>
                simp only [Nat.add_zero] at hcell
                have HQ' := Lib.hid hq
                clear hs' hq
                go_wp2_with (go_at_call 69; refine (rIsName_r s _ HN.out _ hsz).mono ?_; rintro e w' ⟨rfl, rfl⟩)
                go_roundw
                case rel => exact ⟨1, n, by go_num, by omega, HQ'.out, rfl⟩
                case measure => simp [intOf]; omega
              | succ j =>
                obtain ⟨bl', ol', e', _, hcell', hsz'⟩ := StrsO.get _ _ (StrsO.keep (fun k hk => ⟨hk, (HBw.out _ HB.out).block k (hS k hk)⟩) _ _ HOL.out) j (by omega)
                simp only [Option.some.injEq, Addr.mk.injEq, and_true] at e'
                obtain ⟨rfl, rfl⟩ := e'
                have hrd := risesB_drop flabels j hlt2
                rw [Nat.add_sub_cancel, hrd] at hq
                obtain ⟨t, ht⟩ : ∃ t, t = flabels[j] := ⟨_, rfl⟩
                rw [← hs', ← ht] at hq
                rw [← ht] at hcell' hsz'
                rcases hl : Op.bytesLess t.toList s.toList with _ | _
                · have hrr : false = q := by rw [← hq, hl]; simp
                  subst hrr
                  clear hs' ht hrd hq
                  go_wp2_with (go_at_call 69; refine (rIsName_r s _ HN.out _ hsz).mono ?_; rintro e w' ⟨rfl, rfl⟩)
                  go_ret
                  exact ⟨rfl, HBw.out _ (Below.drewN' HB.out _)⟩
                · rw [hl, Bool.true_and] at hq
                  have HQ' := Lib.hid hq
                  clear hs' ht hrd hq
                  go_wp2_with (go_at_call 69; refine (rIsName_r s _ HN.out _ hsz).mono ?_; rintro e w' ⟨rfl, rfl⟩)
                  go_roundw
                  case rel => exact ⟨j + 1 + 1, _, by go_num, by omega, HQ'.out, rfl⟩
                  case measure => simp [intOf]; omega
          · have hk' : k = flabels.length := by omega
            have hGq : G = q := by
              rw [← Hq.out, hk', List.drop_length, risesB_end flabels _ (by omega)]
              simp [namesB]
            subst hGq
            clear hk'
            go_wp2
            all_goals go_ret
            all_goals refine ⟨ret_bool ?_, HBw.out _ (Below.drewN' HB.out _)⟩
            all_goals rw [← HG.out]
            all_goals clear HG HQQ Hq
            all_goals go_light
            all_goals simp_all [ilenk, tl_nil]
      · have hqf : q = false := by rw [← HQ.out]; simp [RNd.own, hk1, hk2, hk3]
        subst hqf
        go_wp2
        all_goals go_ret
        all_goals exact ⟨rfl, HBw.out _ HB.out⟩
end Go.Proofs.Ytnhdgndjpkdhdaa
