/-
  trefoilref02.mayType and CheckType.
-/
import Derived.Test.YthgbldkcgfggfaaRType
namespace Go.Proofs.Ythgbldkcgfggfaa
open Go.RowKit

theorem ilen0 {α : Type} (l : List α) : ((l.length : Int) == 0) = decide (l = []) := by
  cases l with
  | nil => rfl
  | cons a r => simp only [List.length_cons, reduceCtorEq, decide_false]; rw [beq_eq_false_iff_ne]; omega
theorem ilenz {α : Type} (l : List α) : ((0 : Int) == (l.length : Int)) = decide (l = []) := by rw [Bool.beq_comm]; exact ilen0 l
theorem ilenk (n : Nat) (k : Nat) : ((n : Int) == (k : Int)) = decide (n = k) := by
  by_cases h : n = k
  · simp [h]
  · rw [decide_eq_false h, beq_eq_false_iff_ne]; omega
theorem ilen1 (n : Nat) : ((n : Int) == 1) = decide (n = 1) := ilenk n 1
theorem ilen2 (n : Nat) : ((n : Int) == 2) = decide (n = 2) := ilenk n 2
theorem ilenc (n k : Nat) : ((n : Int) == (k : Int)) = decide (k = n) := by rw [ilenk]; by_cases h : n = k <;> simp [h, eq_comm]
theorem tl_nil (s : ByteArray) : s.toList = [] ↔ s.size = 0 := by
  constructor
  · intro h; rw [Lib.toList_data] at h; have := congrArg List.length h; simpa using this
  · exact toList_nil s

set_option maxRecDepth 100000 in
set_option maxHeartbeats 2000000 in
theorem rmayT_any : ∀ (f : Nat) (e0 : Ty) (w : World) (S : Nat → Prop) (ev : Value) (r : Bool), e0.size ≤ f → (∀ k, S k → k < w.heap.size) → TyV w S e0 ev → e0.all tyOk = r →
    Calls Try.prog 37 #[ev] w fun e w' => e = .returned (.bool r) ∧ Below w.heap.size w w' := by
  intro f
  induction f with
  | zero => intro e0 w S ev r h; cases e0; simp [Ty.size] at h
  | succ f ih =>
    intro e0 w S ev r hf hS he hr
    have IH := Lib.hid ih
    clear ih
    obtain ⟨fk, fs, fargs, flabels, fop⟩ := e0
    unfold TyV at he
    obtain ⟨aA, cA, aL, cL, rfl, hs, hA, hA9, hL1, hL9, oA, oL⟩ := he
    have HOA := Lib.hid oA
    have HOL := Lib.hid oL
    clear oA oL
    go_enter Try.func37, Try.ntmps37
    have hsum : 1 + Ty.sizes fargs ≤ f + 1 := by simpa [Ty.size] using hf
    obtain ⟨q, hq⟩ : ∃ q, tyOk (.mk fk fs fargs flabels fop) = q := ⟨_, rfl⟩
    have hqr : (q && Ty.alls tyOk fargs) = r := by rw [← hr, ← hq, Ty.all_eq]; rfl
    have HSM := Lib.hid hsum
    have HQR := Lib.hid hqr
    have HQ := Lib.hid hq
    clear hf hsum hqr hq hr
    have hs9 : fs.size ≤ maxLen := hs
    have hL99 : cL ≤ maxLen := hL9
    unfold maxLen at hA9 hL9
    go_wp2
    obtain ⟨w1, hw1⟩ : ∃ w1, w1 = w.alloc (.cells #[.int .i64 fk, .string fs, .slice aA fargs.length cA, .slice aL flabels.length cL, .bool fop] 42) := ⟨_, rfl⟩
    have hsz1 : w1.heap.size = w.heap.size + 1 := by rw [hw1]; simp
    have hbw : ∀ W, Below w1.heap.size w1 W → Below w.heap.size w W := fun W hW => ((Below.refl _ w).alloc (Nat.le_refl _) _).trans (hw1 ▸ hW.mono (by omega))
    have hrow : ∀ W, Below w1.heap.size w1 W → ∀ j, W.cell? ⟨w.heap.size, j, none⟩ = (#[.int .i64 fk, .string fs, .slice aA fargs.length cA, .slice aL flabels.length cL, .bool fop] : Array Value)[j]? := fun W hW j =>
      cell_of_row W _ j _ _ _ ((hW.block _ (by omega)).trans (by rw [hw1]; exact heap_alloc_new w _))
    have HRow := Lib.hid hrow
    have HBw := Lib.hid hbw
    rw [← hw1]
    clear hbw hw1 hsz1 hrow
    go_loopw [4, 11] (fun _ i wr => ∃ k : Nat, i = .int .i64 k ∧ k ≤ fargs.length ∧ (q && Ty.alls tyOk (fargs.drop k)) = r ∧ Below w1.heap.size w1 wr) (fun _ i _ => fargs.length - (intOf i).toNat)
    case atStart => exact ⟨0, rfl, Nat.zero_le _, by rw [List.drop_zero]; exact HQR.out, Below.refl _ _⟩
    case round =>
      obtain ⟨k, rfl, hk, hq, hb⟩ := hrel
      have Hq := Lib.hid hq
      have HB := Lib.hid hb
      clear hq hb
      by_cases hlt : k < fargs.length
      · obtain ⟨bm, om, rfl, hmp⟩ := TysO.get _ _ (TysO.keep (fun k hk => ⟨hk, (HBw.out _ HB.out).block k (hS k hk)⟩) _ _ HOA.out) k hlt
        have hd := talls_drop fargs k hlt
        have hsg := Ty.szget fargs k hlt
        obtain ⟨m, hm⟩ : ∃ m, m = fargs[k] := ⟨_, rfl⟩
        rw [← hm] at hmp hd hsg
        have hq := Hq.out
        rw [hd] at hq
        have hms : m.size ≤ f := by have := HSM.out; omega
        obtain ⟨xA, yA, xL, yL, f0, f1, f2, f3, f4, hv⟩ := hmp.val
        have hSr : ∀ k, S k → k < wr.heap.size := fun k hk => Nat.lt_of_lt_of_le (hS k hk) (HBw.out _ HB.out).size
        have HV := Lib.hid hv
        clear hm hmp hv hd hsg
        rcases hc : m.all tyOk with _ | _
        · have hrr : false = r := by rw [← hq, hc]; simp
          subst hrr
          have HC := Lib.hid hc
          clear hc hq
          go_wp2_with (go_at_call 37; refine (IH.out m _ S _ false hms (fun k hk => by have := hSr k hk; simp; omega) (TyV.keep (fun k hk => ⟨hk, Below.heap_alloc _ _ _ (hSr k hk)⟩) _ _ HV.out) HC.out).mono ?_; rintro e w' ⟨rfl, hb2⟩; have HB2 := Lib.hid hb2; clear hb2)
          go_ret
          exact ⟨rfl, HBw.out _ ((HB.out.alloc HB.out.size _).trans (HB2.out.mono (by have := HB.out.size; simp; omega)))⟩
        · rw [hc, Bool.true_and] at hq
          have HC := Lib.hid hc
          have HQ' := Lib.hid hq
          clear hc hq
          go_wp2_with (go_at_call 37; refine (IH.out m _ S _ true hms (fun k hk => by have := hSr k hk; simp; omega) (TyV.keep (fun k hk => ⟨hk, Below.heap_alloc _ _ _ (hSr k hk)⟩) _ _ HV.out) HC.out).mono ?_; rintro e w' ⟨rfl, hb2⟩; have HB2 := Lib.hid hb2; clear hb2)
          go_roundw
          case rel => exact ⟨k + 1, by go_num, by omega, HQ'.out, (HB.out.alloc HB.out.size _).trans (HB2.out.mono (by have := HB.out.size; simp; omega))⟩
          case measure => simp [intOf]; omega
      · have hk' : k = fargs.length := by omega
        have hqq : q = r := by have := Hq.out; rw [hk', List.drop_length] at this; simpa [Ty.alls] using this
        subst hqq
        clear hk'
        obtain ⟨c0, c1, c2, c3, c4⟩ := (⟨HRow.out wr HB.out 0, HRow.out wr HB.out 1, HRow.out wr HB.out 2, HRow.out wr HB.out 3, HRow.out wr HB.out 4⟩ : _ ∧ _ ∧ _ ∧ _ ∧ _)
        simp only [List.getElem?_toArray, List.getElem?_cons_zero, List.getElem?_cons_succ] at c0 c1 c2 c3 c4
        clear Hq HQR HRow
        obtain ⟨pw, hpw⟩ : ∃ b, (Pl.nameB fs.data.toList || Pl.keyB fs.data.toList) = b := ⟨_, rfl⟩
        have HPW := Lib.hid hpw
        clear hpw
        by_cases hk1 : fk = 1
        · subst hk1
          have hqq : q = (pw && (decide (fargs.length = 0) && (decide (flabels.length = 0) && !fop))) := by rw [← HQ.out, ← HPW.out]; simp [tyOk, wordB']
          have HQQ := Lib.hid hqq
          clear hqq
          go_wp2_with (go_at_call 61; refine (risWord_r fs _ HPW.out _ hs9).mono ?_; rintro e w' ⟨rfl, rfl⟩)
          all_goals go_ret
          all_goals refine ⟨ret_bool ?_, HBw.out _ HB.out⟩
          all_goals rw [HQQ.out]
          all_goals clear HQQ
          all_goals go_light
          all_goals simp_all [ilen0]
        by_cases hk4 : fk = 4
        · subst hk4
          have hqq : q = (decide (fargs.length = 1) && (pw && (decide (flabels.length = 0) && !fop))) := by rw [← HQ.out, ← HPW.out]; simp [tyOk, wordB']
          have HQQ := Lib.hid hqq
          clear hqq
          go_wp2_with (go_at_call 61; refine (risWord_r fs _ HPW.out _ hs9).mono ?_; rintro e w' ⟨rfl, rfl⟩)
          all_goals go_ret
          all_goals refine ⟨ret_bool ?_, HBw.out _ HB.out⟩
          all_goals rw [HQQ.out]
          all_goals clear HQQ
          all_goals go_light
          all_goals simp_all [ilen1]
        by_cases hk2 : fk = 2
        · subst hk2
          have hqq : q = ((argsOfB fs.toList).isSome && (decide (fargs.length = (argsOfB fs.toList).getD 0) && (decide (flabels.length = 0) && !fop))) := by rw [← HQ.out, Lib.toList_data]; simp [tyOk]
          have HQQ := Lib.hid hqq
          clear hqq
          go_wp2
          all_goals go_ret
          all_goals refine ⟨ret_bool ?_, HBw.out _ HB.out⟩
          all_goals rw [HQQ.out]
          all_goals clear HQQ
          all_goals go_light
          all_goals (try simp_all [argsOfB, ilen2])
          by_cases h : fs.toList = [117, 110, 105, 116] <;> simp_all
        by_cases hk3 : fk = 3
        · subst hk3
          obtain ⟨G, hG⟩ : ∃ G, (decide (fargs.length = flabels.length) && decide (fs.size = 0)) = G := ⟨_, rfl⟩
          have hqq : (G && (namesB flabels && risesB flabels)) = q := by rw [← HQ.out, ← hG]; simp only [tyOk]; cases decide (fargs.length = flabels.length) <;> cases risesB flabels <;> cases namesB flabels <;> simp
          have HQQ := Lib.hid hqq
          have HG := Lib.hid hG
          clear hqq hG hk1 hk2 hk4 HQ
          obtain ⟨lb, hlb⟩ : ∃ b, ((flabels.length : Int) == 0) = b := ⟨_, rfl⟩
          cases lb <;> cases fop <;>
          · go_wp2
            go_loopw [6, 7, 93] (fun _ _ i wn => ∃ k n : Nat, i = .int .i64 k ∧ k ≤ flabels.length ∧ (G && (namesB (flabels.drop k) && risesB (flabels.drop (k - 1)))) = q ∧ wn = wr.drewN n) (fun _ _ i _ => flabels.length - (intOf i).toNat)
            case atStart => exact ⟨0, 0, rfl, Nat.zero_le _, by simpa using HQQ.out, rfl⟩
            case round =>
              obtain ⟨k, n, rfl, hk, hq, rfl⟩ := hrel
              have Hq := Lib.hid hq
              clear hq
              by_cases hlt2 : k < flabels.length
              · obtain ⟨bl, ol, rfl, _, hcell, hsz⟩ := StrsO.get _ _ (StrsO.keep (fun k hk => ⟨hk, (HBw.out _ HB.out).block k (hS k hk)⟩) _ _ HOL.out) k hlt2
                have hd := namesB_drop flabels k hlt2
                have hq := Hq.out
                rw [hd] at hq
                obtain ⟨s, hs⟩ : ∃ s, s = flabels[k] := ⟨_, rfl⟩
                rw [← hs] at hcell hsz hq
                rcases hn : Pl.nameB s.data.toList with _ | _
                · have hrr : false = q := by rw [← hq, hn]; simp
                  subst hrr
                  have HN := Lib.hid hn
                  clear hn hd hs hq
                  go_wp2_with (go_at_call 60; refine (rIsName_r s _ HN.out _ hsz).mono ?_; rintro e w' ⟨rfl, rfl⟩)
                  go_ret
                  exact ⟨rfl, HBw.out _ (Below.drewN' HB.out _)⟩
                · rw [hn, Bool.true_and] at hq
                  have HN := Lib.hid hn
                  clear hn hd
                  cases k with
                  | zero =>
                    simp only [Nat.add_zero] at hcell
                    have HQ' := Lib.hid hq
                    clear hs hq
                    go_wp2_with (go_at_call 60; refine (rIsName_r s _ HN.out _ hsz).mono ?_; rintro e w' ⟨rfl, rfl⟩)
                    go_roundw
                    case rel => exact ⟨1, n, by go_num, by omega, HQ'.out, rfl⟩
                    case measure => simp [intOf]; omega
                  | succ j =>
                    obtain ⟨bl', ol', e', _, hcell', hsz'⟩ := StrsO.get _ _ (StrsO.keep (fun k hk => ⟨hk, (HBw.out _ HB.out).block k (hS k hk)⟩) _ _ HOL.out) j (by omega)
                    simp only [Option.some.injEq, Addr.mk.injEq, and_true] at e'
                    obtain ⟨rfl, rfl⟩ := e'
                    have hrd := risesB_drop flabels j hlt2
                    rw [Nat.add_sub_cancel, hrd] at hq
                    obtain ⟨t, ht⟩ : ∃ t, t = flabels[j] := ⟨_, rfl⟩
                    rw [← hs, ← ht] at hq
                    rw [← ht] at hcell' hsz'
                    rcases hl : Op.bytesLess t.toList s.toList with _ | _
                    · have hrr : false = q := by rw [← hq, hl]; simp
                      subst hrr
                      clear hs ht hrd hq
                      go_wp2_with (go_at_call 60; refine (rIsName_r s _ HN.out _ hsz).mono ?_; rintro e w' ⟨rfl, rfl⟩)
                      go_ret
                      exact ⟨rfl, HBw.out _ (Below.drewN' HB.out _)⟩
                    · rw [hl, Bool.true_and] at hq
                      have HQ' := Lib.hid hq
                      clear hs ht hrd hq
                      go_wp2_with (go_at_call 60; refine (rIsName_r s _ HN.out _ hsz).mono ?_; rintro e w' ⟨rfl, rfl⟩)
                      go_roundw
                      case rel => exact ⟨j + 1 + 1, _, by go_num, by omega, HQ'.out, rfl⟩
                      case measure => simp [intOf]; omega
              · have hk' : k = flabels.length := by omega
                have hGq : G = q := by
                  rw [← Hq.out, hk', List.drop_length, risesB_end flabels _ (by omega)]
                  simp [namesB]
                subst hGq
                clear hk'
                go_wp2
                all_goals go_ret
                all_goals refine ⟨ret_bool ?_, HBw.out _ (Below.drewN' HB.out _)⟩
                all_goals rw [← HG.out]
                all_goals clear HG HQQ Hq
                all_goals go_light
                all_goals simp_all [ilenc, ilenz, tl_nil]
        · have hqq : q = false := by rw [← HQ.out]; simp [tyOk, hk1, hk2, hk3, hk4]
          subst hqq
          go_wp2
          all_goals go_ret
          all_goals exact ⟨rfl, HBw.out _ HB.out⟩
end Go.Proofs.Ythgbldkcgfggfaa
