/-
  graph.nodeMayBe, isFree.
-/
import Derived.Test.YtnhdgndjpkdhdaaDNode
namespace Go.Proofs.Ytnhdgndjpkdhdaa
open Go.RowKit

theorem labelsMayBe_q (w : World) (S : Nat → Prop) (l : List ByteArray) (A : Option Addr) (c : Nat) (q : Bool) (h : StrsO w S l A) (hc : l.length ≤ c) (hm : c ≤ maxLen) (hq : (namesB l && risesB l) = q) (n : Nat) :
    Calls Try.prog 55 #[.slice A l.length c] (w.drewN n) fun e w' => e = .returned (.bool q) ∧ w' = w.drewN n :=
  (labelsMayBe_r (w.drewN n) S l A c q (StrsO.keep (w := w) (w' := w.drewN n) (fun _ hk => ⟨hk, rfl⟩) _ _ h) hc hm hq).mono fun _ _ h => ⟨h.1, h.2.symm⟩

set_option maxRecDepth 100000 in
set_option maxHeartbeats 2000000 in
theorem nodeMayBe_r (w : World) (S : Nat → Prop) (x : RNd) (b o N : Nat) (r : Bool) (_hN : N ≤ 1000000000) (he : NdP w S b o x) (hr : x.ok N = r) :
    Calls Try.prog 39 #[.pointer (some ⟨b, o, none⟩), .int .i64 N] w fun e w' => e = .returned (.bool r) ∧ ∃ n, w' = w.drewN n := by
  obtain ⟨fk, fs, fargs, flabels, fop⟩ := x
  obtain ⟨aA, cA, aL, cL, c0, c1, c2, c3, c4, hs, hA, hA9, hL1, hL9, oA, oL, _⟩ := he.val
  simp only [] at hs hA hL1 oA oL c0 c1 c2 c3 c4
  have HOA := Lib.hid oA
  have HOL := Lib.hid oL
  clear oA oL he
  obtain ⟨q, hq⟩ : ∃ q, RNd.own ⟨fk, fs, fargs, flabels, fop⟩ = q := ⟨_, rfl⟩
  have hqr : (q && (fargs.all fun a => decide (0 ≤ a) && decide (a < N))) = r := by rw [← hr, ← hq, RNd.ok, RNd.within, Bool.and_comm]
  have HQR := Lib.hid hqr
  have HQ := Lib.hid hq
  clear hqr hq hr
  have hs9 : fs.size ≤ maxLen := hs
  have hL99 : cL ≤ maxLen := hL9
  unfold maxLen at hA9 hL9
  go_enter Try.func39, Try.ntmps39
  go_wp2
  go_loop [6, 14] (fun _ i => ∃ k : Nat, i = .int .i64 k ∧ k ≤ fargs.length ∧ (q && ((fargs.drop k).all fun a => decide (0 ≤ a) && decide (a < N))) = r) (fun _ i => fargs.length - (intOf i).toNat)
  case atStart => exact ⟨0, rfl, Nat.zero_le _, by rw [List.drop_zero]; exact HQR.out⟩
  case round =>
    obtain ⟨k, rfl, hk, hq⟩ := hrel
    have Hq := Lib.hid hq
    clear hq
    by_cases hlt : k < fargs.length
    · obtain ⟨bm, om, rfl, _, hcell⟩ := IntsO.get _ _ HOA.out k hlt
      have hd := within_drop N fargs k hlt
      obtain ⟨m, hm⟩ : ∃ m, m = fargs[k] := ⟨_, rfl⟩
      rw [← hm] at hcell hd
      have hq := Hq.out
      rw [hd] at hq
      clear hm hd
      rcases hin : (decide (0 ≤ m) && decide (m < N)) with _ | _
      · have hrr : false = r := by rw [← hq, hin]; simp
        subst hrr
        have HIN := Lib.hid hin
        clear hq hin
        go_wp2_with (go_at_call 38; refine (isNode_r _ m N _ HIN.out).mono ?_; rintro e w' ⟨rfl, rfl⟩)
        go_ret
        exact ⟨rfl, 0, rfl⟩
      · have hq' : (q && ((fargs.drop (k + 1)).all fun a => decide (0 ≤ a) && decide (a < N))) = r := by rw [← hq, hin]; simp
        have HQ' := Lib.hid hq'
        have HIN := Lib.hid hin
        clear hq hq' hin
        go_wp2_with (go_at_call 38; refine (isNode_r _ m N _ HIN.out).mono ?_; rintro e w' ⟨rfl, rfl⟩)
        go_round
        case rel => exact ⟨k + 1, by go_num, by omega, HQ'.out⟩
        case measure => simp [intOf]; omega
    · have hk' : k = fargs.length := by omega
      have hqq : q = r := by have := Hq.out; rw [hk', List.drop_length] at this; simpa using this
      subst hqq
      clear hk' Hq HQR
      by_cases hk1 : fk = 1
      · subst hk1
        have hqq : q = (decide (fs.size = 0) && (decide (fargs = []) && (decide (flabels = []) && !fop))) := by rw [← HQ.out]; simp [RNd.own]
        have HQQ := Lib.hid hqq
        clear hqq
        go_wp2
        all_goals go_ret
        all_goals refine ⟨ret_bool ?_, 0, rfl⟩
        all_goals rw [HQQ.out]
        all_goals clear HQQ HQ
        all_goals go_light
        all_goals simp_all [tl_nil]
      by_cases hk2 : fk = 2
      · subst hk2
        have hqq : q = ((argsOfB fs.toList).isSome && (decide (fargs.length = (argsOfB fs.toList).getD 0) && (decide (flabels = []) && !fop))) := by rw [← HQ.out]; simp [RNd.own]
        obtain ⟨n, hn⟩ : ∃ n, (argsOfB fs.toList).getD 0 = n := ⟨_, rfl⟩
        obtain ⟨bb, hbb⟩ : ∃ bb, (argsOfB fs.toList).isSome = bb := ⟨_, rfl⟩
        rw [hn, hbb] at hqq
        have hn9 : n ≤ 2 := by rw [← hn]; unfold argsOfB; split; (· decide); (split <;> decide)
        have HN := Lib.hid hn
        have HBB := Lib.hid hbb
        have HQQ := Lib.hid hqq
        clear hqq hn hbb
        cases bb <;>
        · go_wp2_with (go_at_call 54; refine (argsOf_r _ fs n _ HN.out HBB.out).mono ?_; rintro e w' ⟨rfl, rfl⟩)
          all_goals go_ret
          all_goals refine ⟨ret_bool ?_, 0, rfl⟩
          all_goals rw [HQQ.out]
          all_goals clear HQQ HQ HN HBB
          all_goals go_light
          all_goals (try simp_all)
          all_goals (first | omega | (intro _; omega) | skip)
      by_cases hk3 : fk = 3
      · subst hk3
        obtain ⟨G, hG⟩ : ∃ G, (namesB flabels && risesB flabels) = G := ⟨_, rfl⟩
        have hqq : q = ((decide (flabels.length = fargs.length) && decide (fs.size = 0)) && G) := by rw [← HQ.out, ← hG]; simp [RNd.own]
        have HQQ := Lib.hid hqq
        have HG := Lib.hid hG
        clear hqq hG hk1 hk2 HQ
        by_cases hs0 : fs.size = 0
        · have he := toList_nil fs hs0
          by_cases hnl : fargs.length = flabels.length
          · have hnl' : ((fargs.length : Int) == (flabels.length : Int)) = true := by rw [ilenk]; exact decide_eq_true hnl
            have hGq : G = q := by rw [HQQ.out]; simp [hs0, hnl]
            subst hGq
            clear HQQ hs0 hnl
            go_wp2
            go_quiet ((go_at_call 55; exact Calls.quiet_of_same (labelsMayBe_q w S flabels aL cL _ HOL.out hL1 hL99 HG.out _)))
            go_wp2
            go_ret
            exact ⟨rfl, _, rfl⟩
          · have hnl' : ((fargs.length : Int) == (flabels.length : Int)) = false := by rw [ilenk]; exact decide_eq_false hnl
            have hGq : false = q := by rw [HQQ.out, decide_eq_false (fun e : flabels.length = fargs.length => hnl e.symm)]; rfl
            subst hGq
            clear HQQ hs0 hnl
            go_wp2
            go_quiet (fail)
            go_wp2
            go_ret
            exact ⟨rfl, _, rfl⟩
        · have he := toList_isEmpty fs (Nat.pos_of_ne_zero hs0)
          have hGq : false = q := by rw [HQQ.out]; simp [hs0]
          subst hGq
          clear HQQ hs0
          go_wp2
          go_quiet (fail)
          go_wp2
          go_ret
          exact ⟨rfl, _, rfl⟩
      · have hqf : q = false := by rw [← HQ.out]; simp [RNd.own, hk1, hk2, hk3]
        subst hqf
        go_wp2
        all_goals go_ret
        all_goals exact ⟨rfl, 0, rfl⟩

set_option maxHeartbeats 400000 in
theorem disFree_r (w : World) (S : Nat → Prop) (x : RNd) (b o : Nat) (he : NdP w S b o x) :
    Calls Try.prog 41 #[.pointer (some ⟨b, o, none⟩)] w fun e w' => e = .returned (.bool (decide (x.kind = 1) || x.op)) ∧ w = w' := by
  obtain ⟨aA, cA, aL, cL, c0, c1, c2, c3, c4, _⟩ := he.val
  by_cases h1 : x.kind = 1
  · rw [h1] at c0
    go_enter Try.func41, Try.ntmps41
    go_wp2
    go_ret
    exact ⟨by simp [h1], rfl⟩
  · have h1' : (x.kind == 1) = false := by simpa using h1
    go_enter Try.func41, Try.ntmps41
    go_wp2
    go_ret
    exact ⟨by simp [h1], rfl⟩
end Go.Proofs.Ytnhdgndjpkdhdaa
