/-
  graph.isNode, argsOf, labelsMayBe, nodeMayBe, isFree.
-/
import Derived.Test.YtnhdgndjpkdhdaaGRef1M
import Derived.Test.YtnhdgndjpkdhdaaDByte
namespace Go.Proofs.Ytnhdgndjpkdhdaa
open Go.RowKit

theorem isNode_r (w : World) (a : Int) (N : Nat) (r : Bool) (hr : (decide (0 ≤ a) && decide (a < N)) = r) :
    Calls Try.prog 38 #[.int .i64 a, .int .i64 N] w fun e w' => e = .returned (.bool r) ∧ w = w' := by
  subst hr
  by_cases h0 : 0 ≤ a <;> by_cases h1 : a < N <;>
  · go_enter Try.func38, Try.ntmps38
    go_wp2
    go_ret
    exact ⟨by simp [h0, h1], rfl⟩

set_option maxHeartbeats 1000000 in
theorem argsOf_r (w : World) (s : ByteArray) (n : Nat) (b : Bool) (hn : (argsOfB s.toList).getD 0 = n) (hb : (argsOfB s.toList).isSome = b) :
    Calls Try.prog 54 #[.string s] w fun e w' => e = .returned (.tuple #[.int .i64 n, .bool b]) ∧ w = w' := by
  have HN := Lib.hid hn
  have HB := Lib.hid hb
  clear hn hb
  go_enter Try.func54, Try.ntmps54
  go_wp2
  all_goals go_ret2
  all_goals refine ⟨?_, rfl⟩
  all_goals rw [← HN.out, ← HB.out]
  all_goals clear HN HB
  all_goals go_light
  all_goals simp_all [argsOfB]

set_option maxRecDepth 100000 in
set_option maxHeartbeats 1000000 in
theorem labelsMayBe_r (w : World) (S : Nat → Prop) (l : List ByteArray) (A : Option Addr) (c : Nat) (q : Bool) (h : StrsO w S l A) (hc : l.length ≤ c) (hm : c ≤ maxLen) (hq : (namesB l && risesB l) = q) :
    Calls Try.prog 55 #[.slice A l.length c] w fun e w' => e = .returned (.bool q) ∧ w = w' := by
  have HOL := Lib.hid h
  have HQ := Lib.hid hq
  clear h hq
  unfold maxLen at hm
  go_enter Try.func55, Try.ntmps55
  go_wp2
  go_loop [3, 4, 7] (fun _ _ i => ∃ k : Nat, i = .int .i64 k ∧ k ≤ l.length ∧ (namesB (l.drop k) && risesB (l.drop (k - 1))) = q) (fun _ _ i => l.length - (intOf i).toNat)
  case atStart => exact ⟨0, rfl, Nat.zero_le _, by simpa using HQ.out⟩
  case round =>
    obtain ⟨k, rfl, hk, hq⟩ := hrel
    have Hq := Lib.hid hq
    clear hq
    by_cases hlt2 : k < l.length
    · obtain ⟨bl, ol, rfl, _, hcell, hsz⟩ := StrsO.get _ _ HOL.out k hlt2
      have hd := namesB_drop l k hlt2
      have hq := Hq.out
      rw [hd] at hq
      obtain ⟨s, hs'⟩ : ∃ s, s = l[k] := ⟨_, rfl⟩
      rw [← hs'] at hcell hsz hq
      rcases hn : Pl.nameB s.data.toList with _ | _
      · have hrr : false = q := by rw [← hq, hn]; simp
        subst hrr
        have HN := Lib.hid hn
        clear hn hd hs' hq
        go_wp2_with (go_at_call 64; refine (isName_r s _ HN.out _ hsz).mono ?_; rintro e w' ⟨rfl, rfl⟩)
        go_ret
        exact ⟨rfl, rfl⟩
      · rw [hn, Bool.true_and] at hq
        have HN := Lib.hid hn
        clear hn hd
        cases k with
        | zero =>
          simp only [Nat.add_zero] at hcell
          have HQ' := Lib.hid hq
          clear hs' hq
          go_wp2_with (go_at_call 64; refine (isName_r s _ HN.out _ hsz).mono ?_; rintro e w' ⟨rfl, rfl⟩)
          go_round
          case rel => exact ⟨1, by go_num, by omega, HQ'.out⟩
          case measure => simp [intOf]; omega
        | succ j =>
          obtain ⟨bl', ol', e', _, hcell', hsz'⟩ := StrsO.get _ _ HOL.out j (by omega)
          simp only [Option.some.injEq, Addr.mk.injEq, and_true] at e'
          obtain ⟨rfl, rfl⟩ := e'
          have hrd := risesB_drop l j hlt2
          rw [Nat.add_sub_cancel, hrd] at hq
          obtain ⟨t, ht⟩ : ∃ t, t = l[j] := ⟨_, rfl⟩
          rw [← hs', ← ht] at hq
          rw [← ht] at hcell' hsz'
          rcases hl : Op.bytesLess t.toList s.toList with _ | _
          · have hrr : false = q := by rw [← hq, hl]; simp
            subst hrr
            clear hs' ht hrd hq
            go_wp2_with (go_at_call 64; refine (isName_r s _ HN.out _ hsz).mono ?_; rintro e w' ⟨rfl, rfl⟩)
            go_ret
            exact ⟨rfl, rfl⟩
          · rw [hl, Bool.true_and] at hq
            have HQ' := Lib.hid hq
            clear hs' ht hrd hq
            go_wp2_with (go_at_call 64; refine (isName_r s _ HN.out _ hsz).mono ?_; rintro e w' ⟨rfl, rfl⟩)
            go_round
            case rel => exact ⟨j + 1 + 1, by go_num, by omega, HQ'.out⟩
            case measure => simp [intOf]; omega
    · have hk' : k = l.length := by omega
      have hGq : true = q := by
        rw [← Hq.out, hk', List.drop_length, risesB_end l _ (by omega)]
        simp [namesB]
      subst hGq
      clear hk'
      go_wp2
      go_ret
      exact ⟨rfl, rfl⟩
end Go.Proofs.Ytnhdgndjpkdhdaa
