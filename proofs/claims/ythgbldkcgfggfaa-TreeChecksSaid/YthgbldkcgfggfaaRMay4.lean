/-
  trefoilref02.may, kind by kind. (Made by gen_rmay.py.)
-/
import Derived.Test.YthgbldkcgfggfaaRMayM
namespace Go.Proofs.Ythgbldkcgfggfaa
open Go.RowKit

set_option maxRecDepth 100000 in
set_option maxHeartbeats 4000000 in
theorem rmay_17 (f : Nat) (ih : ∀ (e0 : Ex) (w : World) (S : Nat → Prop) (ev : Value) (r : Bool), e0.size ≤ f → (∀ k, S k → k < w.heap.size) → ExV w S e0 ev → e0.all okNode = r →
      Calls Try.prog 35 #[ev] w fun e w' => e = .returned (.bool r) ∧ Below w.heap.size w w')
    (w : World) (S : Nat → Prop) (hS : ∀ k, S k → k < w.heap.size) (fs : ByteArray) (fn : Int) (fargs : List Ex) (fnames : List ByteArray) (ftypes : List Ty) (fmems : List Mm) (aA aN aT aM : Option Addr) (cA cN cT cM : Nat) (r q pn : Bool)
    (hs : fs.size ≤ maxLen) (hA : fargs.length ≤ cA) (hA9 : cA ≤ maxLen) (hN1 : fnames.length ≤ cN) (hN9 : cN ≤ maxLen) (_hT : ftypes.length ≤ cT) (_hT9 : cT ≤ maxLen) (hM : fmems.length ≤ cM) (hM9 : cM ≤ maxLen)
    (oA : ExsO w S fargs aA) (oN : StrsO w S fnames aN) (oM : MmsO w S fmems aM) (hsum : Ex.sizes fargs + Mm.sizes fmems ≤ f) (hpn : Pl.nameB fs.data.toList = pn)
    (hq : (pn && leftB ⟨#[]⟩ fn 0 fnames.length ftypes.length fmems.length) = q) (hqr : (q && (Ex.alls okNode fargs && fmems.all mo)) = r) :
    Calls Try.prog 35 #[.agg #[.int .i64 17, .string fs, .int .i64 fn, .slice aA fargs.length cA, .slice aN fnames.length cN, .slice aT ftypes.length cT, .slice aM fmems.length cM]] w fun e w' => e = .returned (.bool r) ∧ Below w.heap.size w w' := by
  go_enter Try.func35, Try.ntmps35
  have HOA := Lib.hid oA
  have HON := Lib.hid oN
  have HOM := Lib.hid oM
  have HPN := Lib.hid hpn
  have HSM := Lib.hid hsum
  have HQR := Lib.hid hqr
  have HQ := Lib.hid hq
  have hA99 : cA ≤ maxLen := hA9
  have hN99 : cN ≤ maxLen := hN9
  have hM99 : cM ≤ maxLen := hM9
  have IH := Lib.hid ih
  clear oA oN oM hpn hsum hqr hq ih
  unfold maxLen at hA9 hN9 hM9
  obtain ⟨MS, hMS⟩ : ∃ b, b = fmems.all mo := ⟨_, rfl⟩
  rw [← hMS] at HQR
  have HMS := Lib.hid hMS
  clear hMS
  go_wp2
  obtain ⟨w1, hw1⟩ : ∃ w1, w1 = w.alloc (.cells #[.int .i64 17, .string fs, .int .i64 fn, .slice aA fargs.length cA, .slice aN fnames.length cN, .slice aT ftypes.length cT, .slice aM fmems.length cM] 31) := ⟨_, rfl⟩
  have hsz1 : w1.heap.size = w.heap.size + 1 := by rw [hw1]; simp
  have hbw : ∀ W, Below w1.heap.size w1 W → Below w.heap.size w W := fun W hW => ((Below.refl _ w).alloc (Nat.le_refl _) _).trans (hw1 ▸ hW.mono (by omega))
  have hrow : ∀ W, Below w1.heap.size w1 W → ∀ j, W.cell? ⟨w.heap.size, j, none⟩ = (#[.int .i64 17, .string fs, .int .i64 fn, .slice aA fargs.length cA, .slice aN fnames.length cN, .slice aT ftypes.length cT, .slice aM fmems.length cM] : Array Value)[j]? := fun W hW j =>
    cell_of_row W _ j _ _ _ ((hW.block _ (by omega)).trans (by rw [hw1]; exact heap_alloc_new w _))
  have HRow := Lib.hid hrow
  have HBw := Lib.hid hbw
  rw [← hw1]
  clear hbw hw1 hsz1 hrow
  go_loopw [4, 14] (fun _ i wr => ∃ k : Nat, i = .int .i64 k ∧ k ≤ fargs.length ∧ (q && (Ex.alls okNode (fargs.drop k) && MS)) = r ∧ Below w1.heap.size w1 wr) (fun _ i _ => fargs.length - (intOf i).toNat)
  case atStart => exact ⟨0, rfl, Nat.zero_le _, by rw [List.drop_zero]; exact HQR.out, Below.refl _ _⟩
  case round =>
    obtain ⟨k, rfl, hk, hq, hb⟩ := hrel
    have hc := HRow.out wr hb
    have Hq := Lib.hid hq
    have HB := Lib.hid hb
    have HC := Lib.hid hc
    clear hq hb hc
    by_cases hlt : k < fargs.length
    · obtain ⟨bm, om, rfl, hmp⟩ := ExsO.get _ _ (ExsO.keep (fun k hk => ⟨hk, (HBw.out _ HB.out).block k (hS k hk)⟩) _ _ HOA.out) k hlt
      have hd := alls_drop fargs k hlt
      have hsg := sizes_get fargs k hlt
      obtain ⟨m, hm⟩ : ∃ m, m = fargs[k] := ⟨_, rfl⟩
      rw [← hm] at hmp hd hsg
      have hq := Hq.out
      rw [hd] at hq
      have hms : m.size ≤ f := by have := HSM.out; omega
      obtain ⟨xA, yA, xN, yN, xT, yT, xM, yM, f0, f1, f2, f3, f4, f5, f6, hv, _⟩ := hmp.val
      have hSr : ∀ k, S k → k < wr.heap.size := fun k hk => Nat.lt_of_lt_of_le (hS k hk) (HBw.out _ HB.out).size
      have HV := Lib.hid hv
      clear hm hmp hv hd hsg
      rcases hc : m.all okNode with _ | _
      · have hrr : false = r := by rw [← hq, hc]; simp
        subst hrr
        have HC' := Lib.hid hc
        clear hc hq
        go_wp2_with (go_at_call 35; refine (IH.out m _ S _ false hms (fun k hk => by have := hSr k hk; simp; omega) (ExV.keep (fun k hk => ⟨hk, Below.heap_alloc _ _ _ (hSr k hk)⟩) _ _ HV.out) HC'.out).mono ?_; rintro e w' ⟨rfl, hb2⟩; have HB2 := Lib.hid hb2; clear hb2)
        go_ret
        exact ⟨rfl, HBw.out _ ((HB.out.alloc HB.out.size _).trans (HB2.out.mono (by have := HB.out.size; simp; omega)))⟩
      · rw [hc, Bool.true_and] at hq
        have HC' := Lib.hid hc
        have HQ' := Lib.hid hq
        clear hc hq
        go_wp2_with (go_at_call 35; refine (IH.out m _ S _ true hms (fun k hk => by have := hSr k hk; simp; omega) (ExV.keep (fun k hk => ⟨hk, Below.heap_alloc _ _ _ (hSr k hk)⟩) _ _ HV.out) HC'.out).mono ?_; rintro e w' ⟨rfl, hb2⟩; have HB2 := Lib.hid hb2; clear hb2)
        go_roundw
        case rel => exact ⟨k + 1, by go_num, by omega, HQ'.out, (HB.out.alloc HB.out.size _).trans (HB2.out.mono (by have := HB.out.size; simp; omega))⟩
        case measure => simp [intOf]; omega
    · have hk' : k = fargs.length := by omega
      have hq0 : (q && MS) = r := by have := Hq.out; rw [hk', List.drop_length] at this; simpa [Ex.alls] using this
      have HQ0 := Lib.hid hq0
      clear hk' hq0
      obtain ⟨c0, c1, c2, c3, c4, c5, c6⟩ := (⟨HC.out 0, HC.out 1, HC.out 2, HC.out 3, HC.out 4, HC.out 5, HC.out 6⟩ : _ ∧ _ ∧ _ ∧ _ ∧ _ ∧ _ ∧ _)
      go_wp2
      go_loopw [6, 25] (fun _ i wr => ∃ k : Nat, i = .int .i64 k ∧ k ≤ fmems.length ∧ (q && (fmems.drop k).all mo) = r ∧ Below w1.heap.size w1 wr) (fun _ i _ => fmems.length - (intOf i).toNat)
      case atStart => exact ⟨0, rfl, Nat.zero_le _, by rw [List.drop_zero, ← HMS.out]; exact HQ0.out, HB.out⟩
      case round =>
        clear HB Hq HC
        obtain ⟨k, rfl, hk, hq, hb⟩ := hrel
        have hc := HRow.out wr hb
        have Hq := Lib.hid hq
        have HB := Lib.hid hb
        have HC := Lib.hid hc
        clear hq hb hc c0 c1 c2 c3 c4 c5 c6
        by_cases hlt : k < fmems.length
        · obtain ⟨bm, om, rfl, hmp⟩ := MmsO.get _ _ (MmsO.keep (fun k hk => ⟨hk, (HBw.out _ HB.out).block k (hS k hk)⟩) _ _ HOM.out) k hlt
          have hd : (fmems.drop k).all mo = (mo fmems[k] && (fmems.drop (k + 1)).all mo) := by rw [List.drop_eq_getElem_cons hlt]; rfl
          have hsg := msizes_get fmems k hlt
          obtain ⟨m, hm⟩ : ∃ m, m = fmems[k] := ⟨_, rfl⟩
          rw [← hm] at hmp hd hsg
          have hq := Hq.out
          rw [hd] at hq
          have hms : Ex.sizes m.args ≤ f := by have := HSM.out; have := Mm.size_eq m; omega
          obtain ⟨xA, yA, xT, yT, f0, f1, f2, f3, f4, hv⟩ := hmp.val
          have hSr : ∀ k, S k → k < wr.heap.size := fun k hk => Nat.lt_of_lt_of_le (hS k hk) (HBw.out _ HB.out).size
          have HV := Lib.hid hv
          clear hm hmp hv hd hsg
          rcases hc : mo m with _ | _
          · have hrr : false = r := by rw [← hq, hc]; simp
            subst hrr
            have HC' := Lib.hid hc
            clear hc hq
            go_wp2_with (go_at_call 59; refine (rmayM_of f IH.out m _ S _ false hms (fun k hk => by have := hSr k hk; simp; omega) (MmV.keep (fun k hk => ⟨hk, Below.heap_alloc _ _ _ (hSr k hk)⟩) _ _ HV.out) HC'.out).mono ?_; rintro e w' ⟨rfl, hb2⟩; have HB2 := Lib.hid hb2; clear hb2)
            go_ret
            exact ⟨rfl, HBw.out _ ((HB.out.alloc HB.out.size _).trans (HB2.out.mono (by have := HB.out.size; simp; omega)))⟩
          · rw [hc, Bool.true_and] at hq
            have HC' := Lib.hid hc
            have HQ' := Lib.hid hq
            clear hc hq
            go_wp2_with (go_at_call 59; refine (rmayM_of f IH.out m _ S _ true hms (fun k hk => by have := hSr k hk; simp; omega) (MmV.keep (fun k hk => ⟨hk, Below.heap_alloc _ _ _ (hSr k hk)⟩) _ _ HV.out) HC'.out).mono ?_; rintro e w' ⟨rfl, hb2⟩; have HB2 := Lib.hid hb2; clear hb2)
            go_roundw
            case rel => exact ⟨k + 1, by go_num, by omega, HQ'.out, (HB.out.alloc HB.out.size _).trans (HB2.out.mono (by have := HB.out.size; simp; omega))⟩
            case measure => simp [intOf]; omega
        · have hk' : k = fmems.length := by omega
          have hqq : q = r := by have := Hq.out; rw [hk', List.drop_length] at this; simpa using this
          subst hqq
          clear hk' hk
          obtain ⟨c0, c1, c2, c3, c4, c5, c6⟩ := (⟨HC.out 0, HC.out 1, HC.out 2, HC.out 3, HC.out 4, HC.out 5, HC.out 6⟩ : _ ∧ _ ∧ _ ∧ _ ∧ _ ∧ _ ∧ _)
          simp only [List.getElem?_toArray, List.getElem?_cons_zero, List.getElem?_cons_succ] at c0 c1 c2 c3 c4 c5 c6
          clear HQR HRow HC Hq HQ0 HMS IH HSM HOM
          go_wp2_with fail
          go_quiet ((go_at_call 60; exact Calls.quiet_of_same ((rIsName_r fs _ HPN.out _ hs).mono fun _ _ h => ⟨h.1, h.2.symm⟩)))
          have hq := HQ.out
          clear HQ
          by_cases hn0 : fn = 0
          case neg =>
            have hqq : q = false := by rw [← hq]; simp [leftB, hn0]
            subst hqq
            go_wp2
            all_goals go_ret
            all_goals exact ⟨rfl, HBw.out _ (Below.drewN' HB.out _)⟩
          subst hn0
          rcases (len_cases fmems) with ⟨h1fmems, h2fmems⟩ | ⟨h1fmems, h2fmems⟩
          · have hqq : q = false := by rw [← hq]; simp [leftB, h2fmems]
            subst hqq
            go_wp2
            all_goals go_ret
            all_goals exact ⟨rfl, HBw.out _ (Below.drewN' HB.out _)⟩
          subst h2fmems
          rcases (len_cases fnames) with ⟨h1fnames, h2fnames⟩ | ⟨h1fnames, h2fnames⟩
          · have hqq : q = false := by rw [← hq]; simp [leftB, h2fnames]
            subst hqq
            go_wp2
            all_goals go_ret
            all_goals exact ⟨rfl, HBw.out _ (Below.drewN' HB.out _)⟩
          subst h2fnames
          rcases (len_cases ftypes) with ⟨h1ftypes, h2ftypes⟩ | ⟨h1ftypes, h2ftypes⟩
          · have hqq : q = false := by rw [← hq]; simp [leftB, h2ftypes]
            subst hqq
            go_wp2
            all_goals go_ret
            all_goals exact ⟨rfl, HBw.out _ (Below.drewN' HB.out _)⟩
          subst h2ftypes
          go_wp2
          all_goals go_ret
          all_goals refine ⟨ret_bool ?_, HBw.out _ (Below.drewN' HB.out _)⟩
          all_goals clear HPN
          all_goals go_light
          all_goals simp_all [leftB, es0]

set_option maxRecDepth 100000 in
set_option maxHeartbeats 4000000 in
theorem rmay_14 (f : Nat) (ih : ∀ (e0 : Ex) (w : World) (S : Nat → Prop) (ev : Value) (r : Bool), e0.size ≤ f → (∀ k, S k → k < w.heap.size) → ExV w S e0 ev → e0.all okNode = r →
      Calls Try.prog 35 #[ev] w fun e w' => e = .returned (.bool r) ∧ Below w.heap.size w w')
    (w : World) (S : Nat → Prop) (hS : ∀ k, S k → k < w.heap.size) (fs : ByteArray) (fn : Int) (fargs : List Ex) (fnames : List ByteArray) (ftypes : List Ty) (fmems : List Mm) (aA aN aT aM : Option Addr) (cA cN cT cM : Nat) (r q pn : Bool)
    (hs : fs.size ≤ maxLen) (hA : fargs.length ≤ cA) (hA9 : cA ≤ maxLen) (hN1 : fnames.length ≤ cN) (hN9 : cN ≤ maxLen) (_hT : ftypes.length ≤ cT) (_hT9 : cT ≤ maxLen) (hM : fmems.length ≤ cM) (hM9 : cM ≤ maxLen)
    (oA : ExsO w S fargs aA) (oN : StrsO w S fnames aN) (oM : MmsO w S fmems aM) (hsum : Ex.sizes fargs + Mm.sizes fmems ≤ f) (hpn : Pl.nameB fs.data.toList = pn)
    (hq : ((decide (fs.size = 0) || pn) && leftB ⟨#[]⟩ fn fargs.length fnames.length ftypes.length 0) = q) (hqr : (q && (Ex.alls okNode fargs && fmems.all mo)) = r) :
    Calls Try.prog 35 #[.agg #[.int .i64 14, .string fs, .int .i64 fn, .slice aA fargs.length cA, .slice aN fnames.length cN, .slice aT ftypes.length cT, .slice aM fmems.length cM]] w fun e w' => e = .returned (.bool r) ∧ Below w.heap.size w w' := by
  go_enter Try.func35, Try.ntmps35
  have HOA := Lib.hid oA
  have HON := Lib.hid oN
  have HOM := Lib.hid oM
  have HPN := Lib.hid hpn
  have HSM := Lib.hid hsum
  have HQR := Lib.hid hqr
  have HQ := Lib.hid hq
  have hA99 : cA ≤ maxLen := hA9
  have hN99 : cN ≤ maxLen := hN9
  have hM99 : cM ≤ maxLen := hM9
  have IH := Lib.hid ih
  clear oA oN oM hpn hsum hqr hq ih
  unfold maxLen at hA9 hN9 hM9
  obtain ⟨MS, hMS⟩ : ∃ b, b = fmems.all mo := ⟨_, rfl⟩
  rw [← hMS] at HQR
  have HMS := Lib.hid hMS
  clear hMS
  go_wp2
  obtain ⟨w1, hw1⟩ : ∃ w1, w1 = w.alloc (.cells #[.int .i64 14, .string fs, .int .i64 fn, .slice aA fargs.length cA, .slice aN fnames.length cN, .slice aT ftypes.length cT, .slice aM fmems.length cM] 31) := ⟨_, rfl⟩
  have hsz1 : w1.heap.size = w.heap.size + 1 := by rw [hw1]; simp
  have hbw : ∀ W, Below w1.heap.size w1 W → Below w.heap.size w W := fun W hW => ((Below.refl _ w).alloc (Nat.le_refl _) _).trans (hw1 ▸ hW.mono (by omega))
  have hrow : ∀ W, Below w1.heap.size w1 W → ∀ j, W.cell? ⟨w.heap.size, j, none⟩ = (#[.int .i64 14, .string fs, .int .i64 fn, .slice aA fargs.length cA, .slice aN fnames.length cN, .slice aT ftypes.length cT, .slice aM fmems.length cM] : Array Value)[j]? := fun W hW j =>
    cell_of_row W _ j _ _ _ ((hW.block _ (by omega)).trans (by rw [hw1]; exact heap_alloc_new w _))
  have HRow := Lib.hid hrow
  have HBw := Lib.hid hbw
  rw [← hw1]
  clear hbw hw1 hsz1 hrow
  go_loopw [4, 14] (fun _ i wr => ∃ k : Nat, i = .int .i64 k ∧ k ≤ fargs.length ∧ (q && (Ex.alls okNode (fargs.drop k) && MS)) = r ∧ Below w1.heap.size w1 wr) (fun _ i _ => fargs.length - (intOf i).toNat)
  case atStart => exact ⟨0, rfl, Nat.zero_le _, by rw [List.drop_zero]; exact HQR.out, Below.refl _ _⟩
  case round =>
    obtain ⟨k, rfl, hk, hq, hb⟩ := hrel
    have hc := HRow.out wr hb
    have Hq := Lib.hid hq
    have HB := Lib.hid hb
    have HC := Lib.hid hc
    clear hq hb hc
    by_cases hlt : k < fargs.length
    · obtain ⟨bm, om, rfl, hmp⟩ := ExsO.get _ _ (ExsO.keep (fun k hk => ⟨hk, (HBw.out _ HB.out).block k (hS k hk)⟩) _ _ HOA.out) k hlt
      have hd := alls_drop fargs k hlt
      have hsg := sizes_get fargs k hlt
      obtain ⟨m, hm⟩ : ∃ m, m = fargs[k] := ⟨_, rfl⟩
      rw [← hm] at hmp hd hsg
      have hq := Hq.out
      rw [hd] at hq
      have hms : m.size ≤ f := by have := HSM.out; omega
      obtain ⟨xA, yA, xN, yN, xT, yT, xM, yM, f0, f1, f2, f3, f4, f5, f6, hv, _⟩ := hmp.val
      have hSr : ∀ k, S k → k < wr.heap.size := fun k hk => Nat.lt_of_lt_of_le (hS k hk) (HBw.out _ HB.out).size
      have HV := Lib.hid hv
      clear hm hmp hv hd hsg
      rcases hc : m.all okNode with _ | _
      · have hrr : false = r := by rw [← hq, hc]; simp
        subst hrr
        have HC' := Lib.hid hc
        clear hc hq
        go_wp2_with (go_at_call 35; refine (IH.out m _ S _ false hms (fun k hk => by have := hSr k hk; simp; omega) (ExV.keep (fun k hk => ⟨hk, Below.heap_alloc _ _ _ (hSr k hk)⟩) _ _ HV.out) HC'.out).mono ?_; rintro e w' ⟨rfl, hb2⟩; have HB2 := Lib.hid hb2; clear hb2)
        go_ret
        exact ⟨rfl, HBw.out _ ((HB.out.alloc HB.out.size _).trans (HB2.out.mono (by have := HB.out.size; simp; omega)))⟩
      · rw [hc, Bool.true_and] at hq
        have HC' := Lib.hid hc
        have HQ' := Lib.hid hq
        clear hc hq
        go_wp2_with (go_at_call 35; refine (IH.out m _ S _ true hms (fun k hk => by have := hSr k hk; simp; omega) (ExV.keep (fun k hk => ⟨hk, Below.heap_alloc _ _ _ (hSr k hk)⟩) _ _ HV.out) HC'.out).mono ?_; rintro e w' ⟨rfl, hb2⟩; have HB2 := Lib.hid hb2; clear hb2)
        go_roundw
        case rel => exact ⟨k + 1, by go_num, by omega, HQ'.out, (HB.out.alloc HB.out.size _).trans (HB2.out.mono (by have := HB.out.size; simp; omega))⟩
        case measure => simp [intOf]; omega
    · have hk' : k = fargs.length := by omega
      have hq0 : (q && MS) = r := by have := Hq.out; rw [hk', List.drop_length] at this; simpa [Ex.alls] using this
      have HQ0 := Lib.hid hq0
      clear hk' hq0
      obtain ⟨c0, c1, c2, c3, c4, c5, c6⟩ := (⟨HC.out 0, HC.out 1, HC.out 2, HC.out 3, HC.out 4, HC.out 5, HC.out 6⟩ : _ ∧ _ ∧ _ ∧ _ ∧ _ ∧ _ ∧ _)
      go_wp2
      go_loopw [6, 25] (fun _ i wr => ∃ k : Nat, i = .int .i64 k ∧ k ≤ fmems.length ∧ (q && (fmems.drop k).all mo) = r ∧ Below w1.heap.size w1 wr) (fun _ i _ => fmems.length - (intOf i).toNat)
      case atStart => exact ⟨0, rfl, Nat.zero_le _, by rw [List.drop_zero, ← HMS.out]; exact HQ0.out, HB.out⟩
      case round =>
        clear HB Hq HC
        obtain ⟨k, rfl, hk, hq, hb⟩ := hrel
        have hc := HRow.out wr hb
        have Hq := Lib.hid hq
        have HB := Lib.hid hb
        have HC := Lib.hid hc
        clear hq hb hc c0 c1 c2 c3 c4 c5 c6
        by_cases hlt : k < fmems.length
        · obtain ⟨bm, om, rfl, hmp⟩ := MmsO.get _ _ (MmsO.keep (fun k hk => ⟨hk, (HBw.out _ HB.out).block k (hS k hk)⟩) _ _ HOM.out) k hlt
          have hd : (fmems.drop k).all mo = (mo fmems[k] && (fmems.drop (k + 1)).all mo) := by rw [List.drop_eq_getElem_cons hlt]; rfl
          have hsg := msizes_get fmems k hlt
          obtain ⟨m, hm⟩ : ∃ m, m = fmems[k] := ⟨_, rfl⟩
          rw [← hm] at hmp hd hsg
          have hq := Hq.out
          rw [hd] at hq
          have hms : Ex.sizes m.args ≤ f := by have := HSM.out; have := Mm.size_eq m; omega
          obtain ⟨xA, yA, xT, yT, f0, f1, f2, f3, f4, hv⟩ := hmp.val
          have hSr : ∀ k, S k → k < wr.heap.size := fun k hk => Nat.lt_of_lt_of_le (hS k hk) (HBw.out _ HB.out).size
          have HV := Lib.hid hv
          clear hm hmp hv hd hsg
          rcases hc : mo m with _ | _
          · have hrr : false = r := by rw [← hq, hc]; simp
            subst hrr
            have HC' := Lib.hid hc
            clear hc hq
            go_wp2_with (go_at_call 59; refine (rmayM_of f IH.out m _ S _ false hms (fun k hk => by have := hSr k hk; simp; omega) (MmV.keep (fun k hk => ⟨hk, Below.heap_alloc _ _ _ (hSr k hk)⟩) _ _ HV.out) HC'.out).mono ?_; rintro e w' ⟨rfl, hb2⟩; have HB2 := Lib.hid hb2; clear hb2)
            go_ret
            exact ⟨rfl, HBw.out _ ((HB.out.alloc HB.out.size _).trans (HB2.out.mono (by have := HB.out.size; simp; omega)))⟩
          · rw [hc, Bool.true_and] at hq
            have HC' := Lib.hid hc
            have HQ' := Lib.hid hq
            clear hc hq
            go_wp2_with (go_at_call 59; refine (rmayM_of f IH.out m _ S _ true hms (fun k hk => by have := hSr k hk; simp; omega) (MmV.keep (fun k hk => ⟨hk, Below.heap_alloc _ _ _ (hSr k hk)⟩) _ _ HV.out) HC'.out).mono ?_; rintro e w' ⟨rfl, hb2⟩; have HB2 := Lib.hid hb2; clear hb2)
            go_roundw
            case rel => exact ⟨k + 1, by go_num, by omega, HQ'.out, (HB.out.alloc HB.out.size _).trans (HB2.out.mono (by have := HB.out.size; simp; omega))⟩
            case measure => simp [intOf]; omega
        · have hk' : k = fmems.length := by omega
          have hqq : q = r := by have := Hq.out; rw [hk', List.drop_length] at this; simpa using this
          subst hqq
          clear hk' hk
          obtain ⟨c0, c1, c2, c3, c4, c5, c6⟩ := (⟨HC.out 0, HC.out 1, HC.out 2, HC.out 3, HC.out 4, HC.out 5, HC.out 6⟩ : _ ∧ _ ∧ _ ∧ _ ∧ _ ∧ _ ∧ _)
          simp only [List.getElem?_toArray, List.getElem?_cons_zero, List.getElem?_cons_succ] at c0 c1 c2 c3 c4 c5 c6
          clear HQR HRow HC Hq HQ0 HMS IH HSM HOM
          go_wp2_with fail
          go_quiet ((go_at_call 60; exact Calls.quiet_of_same ((rIsName_r fs _ HPN.out _ hs).mono fun _ _ h => ⟨h.1, h.2.symm⟩)))
          have hq := HQ.out
          clear HQ
          by_cases hn0 : fn = 0
          case neg =>
            have hqq : q = false := by rw [← hq]; simp [leftB, hn0]
            subst hqq
            go_wp2
            all_goals go_ret
            all_goals exact ⟨rfl, HBw.out _ (Below.drewN' HB.out _)⟩
          subst hn0
          rcases (len_cases fnames) with ⟨h1fnames, h2fnames⟩ | ⟨h1fnames, h2fnames⟩
          · have hqq : q = false := by rw [← hq]; simp [leftB, h2fnames]
            subst hqq
            go_wp2
            all_goals go_ret
            all_goals exact ⟨rfl, HBw.out _ (Below.drewN' HB.out _)⟩
          subst h2fnames
          rcases (len_cases ftypes) with ⟨h1ftypes, h2ftypes⟩ | ⟨h1ftypes, h2ftypes⟩
          · have hqq : q = false := by rw [← hq]; simp [leftB, h2ftypes]
            subst hqq
            go_wp2
            all_goals go_ret
            all_goals exact ⟨rfl, HBw.out _ (Below.drewN' HB.out _)⟩
          subst h2ftypes
          go_wp2
          all_goals go_ret
          all_goals refine ⟨ret_bool ?_, HBw.out _ (Below.drewN' HB.out _)⟩
          all_goals clear HPN
          all_goals go_light
          all_goals simp_all [leftB, es0, tl_nil]

set_option maxRecDepth 100000 in
set_option maxHeartbeats 4000000 in
theorem rmay_18 (f : Nat) (ih : ∀ (e0 : Ex) (w : World) (S : Nat → Prop) (ev : Value) (r : Bool), e0.size ≤ f → (∀ k, S k → k < w.heap.size) → ExV w S e0 ev → e0.all okNode = r →
      Calls Try.prog 35 #[ev] w fun e w' => e = .returned (.bool r) ∧ Below w.heap.size w w')
    (w : World) (S : Nat → Prop) (hS : ∀ k, S k → k < w.heap.size) (fs : ByteArray) (fn : Int) (fargs : List Ex) (fnames : List ByteArray) (ftypes : List Ty) (fmems : List Mm) (aA aN aT aM : Option Addr) (cA cN cT cM : Nat) (r q pn : Bool)
    (hs : fs.size ≤ maxLen) (hA : fargs.length ≤ cA) (hA9 : cA ≤ maxLen) (hN1 : fnames.length ≤ cN) (hN9 : cN ≤ maxLen) (_hT : ftypes.length ≤ cT) (_hT9 : cT ≤ maxLen) (hM : fmems.length ≤ cM) (hM9 : cM ≤ maxLen)
    (oA : ExsO w S fargs aA) (oN : StrsO w S fnames aN) (oM : MmsO w S fmems aM) (hsum : Ex.sizes fargs + Mm.sizes fmems ≤ f) (hpn : Pl.nameB fs.data.toList = pn)
    (hq : (decide (fargs.length = fnames.length) && (namesB fnames && leftB fs fn 0 0 ftypes.length fmems.length)) = q) (hqr : (q && (Ex.alls okNode fargs && fmems.all mo)) = r) :
    Calls Try.prog 35 #[.agg #[.int .i64 18, .string fs, .int .i64 fn, .slice aA fargs.length cA, .slice aN fnames.length cN, .slice aT ftypes.length cT, .slice aM fmems.length cM]] w fun e w' => e = .returned (.bool r) ∧ Below w.heap.size w w' := by
  go_enter Try.func35, Try.ntmps35
  have HOA := Lib.hid oA
  have HON := Lib.hid oN
  have HOM := Lib.hid oM
  have HPN := Lib.hid hpn
  have HSM := Lib.hid hsum
  have HQR := Lib.hid hqr
  have HQ := Lib.hid hq
  have hA99 : cA ≤ maxLen := hA9
  have hN99 : cN ≤ maxLen := hN9
  have hM99 : cM ≤ maxLen := hM9
  have IH := Lib.hid ih
  clear oA oN oM hpn hsum hqr hq ih
  unfold maxLen at hA9 hN9 hM9
  obtain ⟨MS, hMS⟩ : ∃ b, b = fmems.all mo := ⟨_, rfl⟩
  rw [← hMS] at HQR
  have HMS := Lib.hid hMS
  clear hMS
  go_wp2
  obtain ⟨w1, hw1⟩ : ∃ w1, w1 = w.alloc (.cells #[.int .i64 18, .string fs, .int .i64 fn, .slice aA fargs.length cA, .slice aN fnames.length cN, .slice aT ftypes.length cT, .slice aM fmems.length cM] 31) := ⟨_, rfl⟩
  have hsz1 : w1.heap.size = w.heap.size + 1 := by rw [hw1]; simp
  have hbw : ∀ W, Below w1.heap.size w1 W → Below w.heap.size w W := fun W hW => ((Below.refl _ w).alloc (Nat.le_refl _) _).trans (hw1 ▸ hW.mono (by omega))
  have hrow : ∀ W, Below w1.heap.size w1 W → ∀ j, W.cell? ⟨w.heap.size, j, none⟩ = (#[.int .i64 18, .string fs, .int .i64 fn, .slice aA fargs.length cA, .slice aN fnames.length cN, .slice aT ftypes.length cT, .slice aM fmems.length cM] : Array Value)[j]? := fun W hW j =>
    cell_of_row W _ j _ _ _ ((hW.block _ (by omega)).trans (by rw [hw1]; exact heap_alloc_new w _))
  have HRow := Lib.hid hrow
  have HBw := Lib.hid hbw
  rw [← hw1]
  clear hbw hw1 hsz1 hrow
  go_loopw [4, 14] (fun _ i wr => ∃ k : Nat, i = .int .i64 k ∧ k ≤ fargs.length ∧ (q && (Ex.alls okNode (fargs.drop k) && MS)) = r ∧ Below w1.heap.size w1 wr) (fun _ i _ => fargs.length - (intOf i).toNat)
  case atStart => exact ⟨0, rfl, Nat.zero_le _, by rw [List.drop_zero]; exact HQR.out, Below.refl _ _⟩
  case round =>
    obtain ⟨k, rfl, hk, hq, hb⟩ := hrel
    have hc := HRow.out wr hb
    have Hq := Lib.hid hq
    have HB := Lib.hid hb
    have HC := Lib.hid hc
    clear hq hb hc
    by_cases hlt : k < fargs.length
    · obtain ⟨bm, om, rfl, hmp⟩ := ExsO.get _ _ (ExsO.keep (fun k hk => ⟨hk, (HBw.out _ HB.out).block k (hS k hk)⟩) _ _ HOA.out) k hlt
      have hd := alls_drop fargs k hlt
      have hsg := sizes_get fargs k hlt
      obtain ⟨m, hm⟩ : ∃ m, m = fargs[k] := ⟨_, rfl⟩
      rw [← hm] at hmp hd hsg
      have hq := Hq.out
      rw [hd] at hq
      have hms : m.size ≤ f := by have := HSM.out; omega
      obtain ⟨xA, yA, xN, yN, xT, yT, xM, yM, f0, f1, f2, f3, f4, f5, f6, hv, _⟩ := hmp.val
      have hSr : ∀ k, S k → k < wr.heap.size := fun k hk => Nat.lt_of_lt_of_le (hS k hk) (HBw.out _ HB.out).size
      have HV := Lib.hid hv
      clear hm hmp hv hd hsg
      rcases hc : m.all okNode with _ | _
      · have hrr : false = r := by rw [← hq, hc]; simp
        subst hrr
        have HC' := Lib.hid hc
        clear hc hq
        go_wp2_with (go_at_call 35; refine (IH.out m _ S _ false hms (fun k hk => by have := hSr k hk; simp; omega) (ExV.keep (fun k hk => ⟨hk, Below.heap_alloc _ _ _ (hSr k hk)⟩) _ _ HV.out) HC'.out).mono ?_; rintro e w' ⟨rfl, hb2⟩; have HB2 := Lib.hid hb2; clear hb2)
        go_ret
        exact ⟨rfl, HBw.out _ ((HB.out.alloc HB.out.size _).trans (HB2.out.mono (by have := HB.out.size; simp; omega)))⟩
      · rw [hc, Bool.true_and] at hq
        have HC' := Lib.hid hc
        have HQ' := Lib.hid hq
        clear hc hq
        go_wp2_with (go_at_call 35; refine (IH.out m _ S _ true hms (fun k hk => by have := hSr k hk; simp; omega) (ExV.keep (fun k hk => ⟨hk, Below.heap_alloc _ _ _ (hSr k hk)⟩) _ _ HV.out) HC'.out).mono ?_; rintro e w' ⟨rfl, hb2⟩; have HB2 := Lib.hid hb2; clear hb2)
        go_roundw
        case rel => exact ⟨k + 1, by go_num, by omega, HQ'.out, (HB.out.alloc HB.out.size _).trans (HB2.out.mono (by have := HB.out.size; simp; omega))⟩
        case measure => simp [intOf]; omega
    · have hk' : k = fargs.length := by omega
      have hq0 : (q && MS) = r := by have := Hq.out; rw [hk', List.drop_length] at this; simpa [Ex.alls] using this
      have HQ0 := Lib.hid hq0
      clear hk' hq0
      obtain ⟨c0, c1, c2, c3, c4, c5, c6⟩ := (⟨HC.out 0, HC.out 1, HC.out 2, HC.out 3, HC.out 4, HC.out 5, HC.out 6⟩ : _ ∧ _ ∧ _ ∧ _ ∧ _ ∧ _ ∧ _)
      go_wp2
      go_loopw [6, 25] (fun _ i wr => ∃ k : Nat, i = .int .i64 k ∧ k ≤ fmems.length ∧ (q && (fmems.drop k).all mo) = r ∧ Below w1.heap.size w1 wr) (fun _ i _ => fmems.length - (intOf i).toNat)
      case atStart => exact ⟨0, rfl, Nat.zero_le _, by rw [List.drop_zero, ← HMS.out]; exact HQ0.out, HB.out⟩
      case round =>
        clear HB Hq HC
        obtain ⟨k, rfl, hk, hq, hb⟩ := hrel
        have hc := HRow.out wr hb
        have Hq := Lib.hid hq
        have HB := Lib.hid hb
        have HC := Lib.hid hc
        clear hq hb hc c0 c1 c2 c3 c4 c5 c6
        by_cases hlt : k < fmems.length
        · obtain ⟨bm, om, rfl, hmp⟩ := MmsO.get _ _ (MmsO.keep (fun k hk => ⟨hk, (HBw.out _ HB.out).block k (hS k hk)⟩) _ _ HOM.out) k hlt
          have hd : (fmems.drop k).all mo = (mo fmems[k] && (fmems.drop (k + 1)).all mo) := by rw [List.drop_eq_getElem_cons hlt]; rfl
          have hsg := msizes_get fmems k hlt
          obtain ⟨m, hm⟩ : ∃ m, m = fmems[k] := ⟨_, rfl⟩
          rw [← hm] at hmp hd hsg
          have hq := Hq.out
          rw [hd] at hq
          have hms : Ex.sizes m.args ≤ f := by have := HSM.out; have := Mm.size_eq m; omega
          obtain ⟨xA, yA, xT, yT, f0, f1, f2, f3, f4, hv⟩ := hmp.val
          have hSr : ∀ k, S k → k < wr.heap.size := fun k hk => Nat.lt_of_lt_of_le (hS k hk) (HBw.out _ HB.out).size
          have HV := Lib.hid hv
          clear hm hmp hv hd hsg
          rcases hc : mo m with _ | _
          · have hrr : false = r := by rw [← hq, hc]; simp
            subst hrr
            have HC' := Lib.hid hc
            clear hc hq
            go_wp2_with (go_at_call 59; refine (rmayM_of f IH.out m _ S _ false hms (fun k hk => by have := hSr k hk; simp; omega) (MmV.keep (fun k hk => ⟨hk, Below.heap_alloc _ _ _ (hSr k hk)⟩) _ _ HV.out) HC'.out).mono ?_; rintro e w' ⟨rfl, hb2⟩; have HB2 := Lib.hid hb2; clear hb2)
            go_ret
            exact ⟨rfl, HBw.out _ ((HB.out.alloc HB.out.size _).trans (HB2.out.mono (by have := HB.out.size; simp; omega)))⟩
          · rw [hc, Bool.true_and] at hq
            have HC' := Lib.hid hc
            have HQ' := Lib.hid hq
            clear hc hq
            go_wp2_with (go_at_call 59; refine (rmayM_of f IH.out m _ S _ true hms (fun k hk => by have := hSr k hk; simp; omega) (MmV.keep (fun k hk => ⟨hk, Below.heap_alloc _ _ _ (hSr k hk)⟩) _ _ HV.out) HC'.out).mono ?_; rintro e w' ⟨rfl, hb2⟩; have HB2 := Lib.hid hb2; clear hb2)
            go_roundw
            case rel => exact ⟨k + 1, by go_num, by omega, HQ'.out, (HB.out.alloc HB.out.size _).trans (HB2.out.mono (by have := HB.out.size; simp; omega))⟩
            case measure => simp [intOf]; omega
        · have hk' : k = fmems.length := by omega
          have hqq : q = r := by have := Hq.out; rw [hk', List.drop_length] at this; simpa using this
          subst hqq
          clear hk' hk
          obtain ⟨c0, c1, c2, c3, c4, c5, c6⟩ := (⟨HC.out 0, HC.out 1, HC.out 2, HC.out 3, HC.out 4, HC.out 5, HC.out 6⟩ : _ ∧ _ ∧ _ ∧ _ ∧ _ ∧ _ ∧ _)
          simp only [List.getElem?_toArray, List.getElem?_cons_zero, List.getElem?_cons_succ] at c0 c1 c2 c3 c4 c5 c6
          clear HQR HRow HC Hq HQ0 HMS IH HSM HOM
          go_wp2_with fail
          go_quiet ((go_at_call 60; exact Calls.quiet_of_same ((rIsName_r fs _ HPN.out _ hs).mono fun _ _ h => ⟨h.1, h.2.symm⟩)))
          have hq := HQ.out
          clear HQ
          by_cases hn0 : fn = 0
          case neg =>
            have hqq : q = false := by rw [← hq]; simp [leftB, hn0]
            subst hqq
            go_wp2
            all_goals go_ret
            all_goals exact ⟨rfl, HBw.out _ (Below.drewN' HB.out _)⟩
          subst hn0
          rcases (len_cases fmems) with ⟨h1fmems, h2fmems⟩ | ⟨h1fmems, h2fmems⟩
          · have hqq : q = false := by rw [← hq]; simp [leftB, h2fmems]
            subst hqq
            go_wp2
            all_goals go_ret
            all_goals exact ⟨rfl, HBw.out _ (Below.drewN' HB.out _)⟩
          subst h2fmems
          rcases (len_cases ftypes) with ⟨h1ftypes, h2ftypes⟩ | ⟨h1ftypes, h2ftypes⟩
          · have hqq : q = false := by rw [← hq]; simp [leftB, h2ftypes]
            subst hqq
            go_wp2
            all_goals go_ret
            all_goals exact ⟨rfl, HBw.out _ (Below.drewN' HB.out _)⟩
          subst h2ftypes
          have hq18 : (decide (fargs.length = fnames.length) && decide (fs.size = 0) && namesB fnames) = q := by rw [← hq]; simp only [leftB]; cases decide (fargs.length = fnames.length) <;> cases namesB fnames <;> simp
          obtain ⟨G, hG⟩ : ∃ G, (decide (fargs.length = fnames.length) && decide (fs.size = 0)) = G := ⟨_, rfl⟩
          rw [hG] at hq18
          have HQ18 := Lib.hid hq18
          have HG := Lib.hid hG
          clear hq hq18 hG
          clear hlt
          go_wp2
          go_loopw [10, 260] (fun _ i wn => ∃ k n : Nat, i = .int .i64 k ∧ k ≤ fnames.length ∧ (G && namesB (fnames.drop k)) = q ∧ wn = wr.drewN n) (fun _ i _ => fnames.length - (intOf i).toNat)
          case atStart => exact ⟨0, nq, rfl, Nat.zero_le _, by simpa using HQ18.out, rfl⟩
          case round =>
            obtain ⟨k, n, rfl, hk, hq, rfl⟩ := hrel
            have Hq := Lib.hid hq
            clear hq
            by_cases hlt2 : k < fnames.length
            · obtain ⟨bl, ol, rfl, _, hcell, hsz⟩ := StrsO.get _ _ (StrsO.keep (fun k hk => ⟨hk, (HBw.out _ HB.out).block k (hS k hk)⟩) _ _ HON.out) k hlt2
              have hd := namesB_drop fnames k hlt2
              have hq := Hq.out
              rw [hd] at hq
              obtain ⟨s, hs'⟩ : ∃ s, s = fnames[k] := ⟨_, rfl⟩
              rw [← hs'] at hcell hsz hq
              rcases hn : Pl.nameB s.data.toList with _ | _
              · have hrr : false = q := by rw [← hq, hn]; simp
                subst hrr
                have HN := Lib.hid hn
                clear hn hd hs' hq
                go_wp2_with (go_at_call 60; refine (rIsName_r s _ HN.out _ hsz).mono ?_; rintro e w' ⟨rfl, rfl⟩)
                go_ret
                exact ⟨rfl, HBw.out _ (Below.drewN' HB.out _)⟩
              · rw [hn, Bool.true_and] at hq
                have HN := Lib.hid hn
                have HQ' := Lib.hid hq
                clear hn hd hs' hq
                go_wp2_with (go_at_call 60; refine (rIsName_r s _ HN.out _ hsz).mono ?_; rintro e w' ⟨rfl, rfl⟩)
                go_roundw
                case rel => exact ⟨k + 1, _, by go_num, by omega, HQ'.out, rfl⟩
                case measure => simp [intOf]; omega
            · have hk' : k = fnames.length := by omega
              have hGq : G = q := by rw [← Hq.out, hk', List.drop_length]; simp [namesB]
              subst hGq
              clear hk'
              go_wp2
              all_goals go_ret
              all_goals refine ⟨ret_bool ?_, HBw.out _ (Below.drewN' HB.out _)⟩
              all_goals rw [← HG.out]
              all_goals clear HPN HG HQ18 Hq
              all_goals go_light
              all_goals simp_all [ilenr, tl_nil]

set_option maxRecDepth 100000 in
set_option maxHeartbeats 4000000 in
theorem rmay_19 (f : Nat) (ih : ∀ (e0 : Ex) (w : World) (S : Nat → Prop) (ev : Value) (r : Bool), e0.size ≤ f → (∀ k, S k → k < w.heap.size) → ExV w S e0 ev → e0.all okNode = r →
      Calls Try.prog 35 #[ev] w fun e w' => e = .returned (.bool r) ∧ Below w.heap.size w w')
    (w : World) (S : Nat → Prop) (hS : ∀ k, S k → k < w.heap.size) (fs : ByteArray) (fn : Int) (fargs : List Ex) (fnames : List ByteArray) (ftypes : List Ty) (fmems : List Mm) (aA aN aT aM : Option Addr) (cA cN cT cM : Nat) (r q pn : Bool)
    (hs : fs.size ≤ maxLen) (hA : fargs.length ≤ cA) (hA9 : cA ≤ maxLen) (hN1 : fnames.length ≤ cN) (hN9 : cN ≤ maxLen) (_hT : ftypes.length ≤ cT) (_hT9 : cT ≤ maxLen) (hM : fmems.length ≤ cM) (hM9 : cM ≤ maxLen)
    (oA : ExsO w S fargs aA) (oN : StrsO w S fnames aN) (oM : MmsO w S fmems aM) (hsum : Ex.sizes fargs + Mm.sizes fmems ≤ f) (hpn : Pl.nameB fs.data.toList = pn)
    (hq : (decide (ftypes.length = 1) && (decide (fargs.length = 1) && leftB fs fn 0 fnames.length 0 fmems.length)) = q) (hqr : (q && (Ex.alls okNode fargs && fmems.all mo)) = r) :
    Calls Try.prog 35 #[.agg #[.int .i64 19, .string fs, .int .i64 fn, .slice aA fargs.length cA, .slice aN fnames.length cN, .slice aT ftypes.length cT, .slice aM fmems.length cM]] w fun e w' => e = .returned (.bool r) ∧ Below w.heap.size w w' := by
  go_enter Try.func35, Try.ntmps35
  have HOA := Lib.hid oA
  have HON := Lib.hid oN
  have HOM := Lib.hid oM
  have HPN := Lib.hid hpn
  have HSM := Lib.hid hsum
  have HQR := Lib.hid hqr
  have HQ := Lib.hid hq
  have hA99 : cA ≤ maxLen := hA9
  have hN99 : cN ≤ maxLen := hN9
  have hM99 : cM ≤ maxLen := hM9
  have IH := Lib.hid ih
  clear oA oN oM hpn hsum hqr hq ih
  unfold maxLen at hA9 hN9 hM9
  obtain ⟨MS, hMS⟩ : ∃ b, b = fmems.all mo := ⟨_, rfl⟩
  rw [← hMS] at HQR
  have HMS := Lib.hid hMS
  clear hMS
  go_wp2
  obtain ⟨w1, hw1⟩ : ∃ w1, w1 = w.alloc (.cells #[.int .i64 19, .string fs, .int .i64 fn, .slice aA fargs.length cA, .slice aN fnames.length cN, .slice aT ftypes.length cT, .slice aM fmems.length cM] 31) := ⟨_, rfl⟩
  have hsz1 : w1.heap.size = w.heap.size + 1 := by rw [hw1]; simp
  have hbw : ∀ W, Below w1.heap.size w1 W → Below w.heap.size w W := fun W hW => ((Below.refl _ w).alloc (Nat.le_refl _) _).trans (hw1 ▸ hW.mono (by omega))
  have hrow : ∀ W, Below w1.heap.size w1 W → ∀ j, W.cell? ⟨w.heap.size, j, none⟩ = (#[.int .i64 19, .string fs, .int .i64 fn, .slice aA fargs.length cA, .slice aN fnames.length cN, .slice aT ftypes.length cT, .slice aM fmems.length cM] : Array Value)[j]? := fun W hW j =>
    cell_of_row W _ j _ _ _ ((hW.block _ (by omega)).trans (by rw [hw1]; exact heap_alloc_new w _))
  have HRow := Lib.hid hrow
  have HBw := Lib.hid hbw
  rw [← hw1]
  clear hbw hw1 hsz1 hrow
  go_loopw [4, 14] (fun _ i wr => ∃ k : Nat, i = .int .i64 k ∧ k ≤ fargs.length ∧ (q && (Ex.alls okNode (fargs.drop k) && MS)) = r ∧ Below w1.heap.size w1 wr) (fun _ i _ => fargs.length - (intOf i).toNat)
  case atStart => exact ⟨0, rfl, Nat.zero_le _, by rw [List.drop_zero]; exact HQR.out, Below.refl _ _⟩
  case round =>
    obtain ⟨k, rfl, hk, hq, hb⟩ := hrel
    have hc := HRow.out wr hb
    have Hq := Lib.hid hq
    have HB := Lib.hid hb
    have HC := Lib.hid hc
    clear hq hb hc
    by_cases hlt : k < fargs.length
    · obtain ⟨bm, om, rfl, hmp⟩ := ExsO.get _ _ (ExsO.keep (fun k hk => ⟨hk, (HBw.out _ HB.out).block k (hS k hk)⟩) _ _ HOA.out) k hlt
      have hd := alls_drop fargs k hlt
      have hsg := sizes_get fargs k hlt
      obtain ⟨m, hm⟩ : ∃ m, m = fargs[k] := ⟨_, rfl⟩
      rw [← hm] at hmp hd hsg
      have hq := Hq.out
      rw [hd] at hq
      have hms : m.size ≤ f := by have := HSM.out; omega
      obtain ⟨xA, yA, xN, yN, xT, yT, xM, yM, f0, f1, f2, f3, f4, f5, f6, hv, _⟩ := hmp.val
      have hSr : ∀ k, S k → k < wr.heap.size := fun k hk => Nat.lt_of_lt_of_le (hS k hk) (HBw.out _ HB.out).size
      have HV := Lib.hid hv
      clear hm hmp hv hd hsg
      rcases hc : m.all okNode with _ | _
      · have hrr : false = r := by rw [← hq, hc]; simp
        subst hrr
        have HC' := Lib.hid hc
        clear hc hq
        go_wp2_with (go_at_call 35; refine (IH.out m _ S _ false hms (fun k hk => by have := hSr k hk; simp; omega) (ExV.keep (fun k hk => ⟨hk, Below.heap_alloc _ _ _ (hSr k hk)⟩) _ _ HV.out) HC'.out).mono ?_; rintro e w' ⟨rfl, hb2⟩; have HB2 := Lib.hid hb2; clear hb2)
        go_ret
        exact ⟨rfl, HBw.out _ ((HB.out.alloc HB.out.size _).trans (HB2.out.mono (by have := HB.out.size; simp; omega)))⟩
      · rw [hc, Bool.true_and] at hq
        have HC' := Lib.hid hc
        have HQ' := Lib.hid hq
        clear hc hq
        go_wp2_with (go_at_call 35; refine (IH.out m _ S _ true hms (fun k hk => by have := hSr k hk; simp; omega) (ExV.keep (fun k hk => ⟨hk, Below.heap_alloc _ _ _ (hSr k hk)⟩) _ _ HV.out) HC'.out).mono ?_; rintro e w' ⟨rfl, hb2⟩; have HB2 := Lib.hid hb2; clear hb2)
        go_roundw
        case rel => exact ⟨k + 1, by go_num, by omega, HQ'.out, (HB.out.alloc HB.out.size _).trans (HB2.out.mono (by have := HB.out.size; simp; omega))⟩
        case measure => simp [intOf]; omega
    · have hk' : k = fargs.length := by omega
      have hq0 : (q && MS) = r := by have := Hq.out; rw [hk', List.drop_length] at this; simpa [Ex.alls] using this
      have HQ0 := Lib.hid hq0
      clear hk' hq0
      obtain ⟨c0, c1, c2, c3, c4, c5, c6⟩ := (⟨HC.out 0, HC.out 1, HC.out 2, HC.out 3, HC.out 4, HC.out 5, HC.out 6⟩ : _ ∧ _ ∧ _ ∧ _ ∧ _ ∧ _ ∧ _)
      go_wp2
      go_loopw [6, 25] (fun _ i wr => ∃ k : Nat, i = .int .i64 k ∧ k ≤ fmems.length ∧ (q && (fmems.drop k).all mo) = r ∧ Below w1.heap.size w1 wr) (fun _ i _ => fmems.length - (intOf i).toNat)
      case atStart => exact ⟨0, rfl, Nat.zero_le _, by rw [List.drop_zero, ← HMS.out]; exact HQ0.out, HB.out⟩
      case round =>
        clear HB Hq HC
        obtain ⟨k, rfl, hk, hq, hb⟩ := hrel
        have hc := HRow.out wr hb
        have Hq := Lib.hid hq
        have HB := Lib.hid hb
        have HC := Lib.hid hc
        clear hq hb hc c0 c1 c2 c3 c4 c5 c6
        by_cases hlt : k < fmems.length
        · obtain ⟨bm, om, rfl, hmp⟩ := MmsO.get _ _ (MmsO.keep (fun k hk => ⟨hk, (HBw.out _ HB.out).block k (hS k hk)⟩) _ _ HOM.out) k hlt
          have hd : (fmems.drop k).all mo = (mo fmems[k] && (fmems.drop (k + 1)).all mo) := by rw [List.drop_eq_getElem_cons hlt]; rfl
          have hsg := msizes_get fmems k hlt
          obtain ⟨m, hm⟩ : ∃ m, m = fmems[k] := ⟨_, rfl⟩
          rw [← hm] at hmp hd hsg
          have hq := Hq.out
          rw [hd] at hq
          have hms : Ex.sizes m.args ≤ f := by have := HSM.out; have := Mm.size_eq m; omega
          obtain ⟨xA, yA, xT, yT, f0, f1, f2, f3, f4, hv⟩ := hmp.val
          have hSr : ∀ k, S k → k < wr.heap.size := fun k hk => Nat.lt_of_lt_of_le (hS k hk) (HBw.out _ HB.out).size
          have HV := Lib.hid hv
          clear hm hmp hv hd hsg
          rcases hc : mo m with _ | _
          · have hrr : false = r := by rw [← hq, hc]; simp
            subst hrr
            have HC' := Lib.hid hc
            clear hc hq
            go_wp2_with (go_at_call 59; refine (rmayM_of f IH.out m _ S _ false hms (fun k hk => by have := hSr k hk; simp; omega) (MmV.keep (fun k hk => ⟨hk, Below.heap_alloc _ _ _ (hSr k hk)⟩) _ _ HV.out) HC'.out).mono ?_; rintro e w' ⟨rfl, hb2⟩; have HB2 := Lib.hid hb2; clear hb2)
            go_ret
            exact ⟨rfl, HBw.out _ ((HB.out.alloc HB.out.size _).trans (HB2.out.mono (by have := HB.out.size; simp; omega)))⟩
          · rw [hc, Bool.true_and] at hq
            have HC' := Lib.hid hc
            have HQ' := Lib.hid hq
            clear hc hq
            go_wp2_with (go_at_call 59; refine (rmayM_of f IH.out m _ S _ true hms (fun k hk => by have := hSr k hk; simp; omega) (MmV.keep (fun k hk => ⟨hk, Below.heap_alloc _ _ _ (hSr k hk)⟩) _ _ HV.out) HC'.out).mono ?_; rintro e w' ⟨rfl, hb2⟩; have HB2 := Lib.hid hb2; clear hb2)
            go_roundw
            case rel => exact ⟨k + 1, by go_num, by omega, HQ'.out, (HB.out.alloc HB.out.size _).trans (HB2.out.mono (by have := HB.out.size; simp; omega))⟩
            case measure => simp [intOf]; omega
        · have hk' : k = fmems.length := by omega
          have hqq : q = r := by have := Hq.out; rw [hk', List.drop_length] at this; simpa using this
          subst hqq
          clear hk' hk
          obtain ⟨c0, c1, c2, c3, c4, c5, c6⟩ := (⟨HC.out 0, HC.out 1, HC.out 2, HC.out 3, HC.out 4, HC.out 5, HC.out 6⟩ : _ ∧ _ ∧ _ ∧ _ ∧ _ ∧ _ ∧ _)
          simp only [List.getElem?_toArray, List.getElem?_cons_zero, List.getElem?_cons_succ] at c0 c1 c2 c3 c4 c5 c6
          clear HQR HRow HC Hq HQ0 HMS IH HSM HOM
          go_wp2_with fail
          go_quiet ((go_at_call 60; exact Calls.quiet_of_same ((rIsName_r fs _ HPN.out _ hs).mono fun _ _ h => ⟨h.1, h.2.symm⟩)))
          have hq := HQ.out
          clear HQ
          by_cases hn0 : fn = 0
          case neg =>
            have hqq : q = false := by rw [← hq]; simp [leftB, hn0]
            subst hqq
            go_wp2
            all_goals go_ret
            all_goals exact ⟨rfl, HBw.out _ (Below.drewN' HB.out _)⟩
          subst hn0
          rcases (len_cases fmems) with ⟨h1fmems, h2fmems⟩ | ⟨h1fmems, h2fmems⟩
          · have hqq : q = false := by rw [← hq]; simp [leftB, h2fmems]
            subst hqq
            go_wp2
            all_goals go_ret
            all_goals exact ⟨rfl, HBw.out _ (Below.drewN' HB.out _)⟩
          subst h2fmems
          rcases (len_cases fnames) with ⟨h1fnames, h2fnames⟩ | ⟨h1fnames, h2fnames⟩
          · have hqq : q = false := by rw [← hq]; simp [leftB, h2fnames]
            subst hqq
            go_wp2
            all_goals go_ret
            all_goals exact ⟨rfl, HBw.out _ (Below.drewN' HB.out _)⟩
          subst h2fnames
          go_wp2
          all_goals go_ret
          all_goals refine ⟨ret_bool ?_, HBw.out _ (Below.drewN' HB.out _)⟩
          all_goals clear HPN
          all_goals go_light
          all_goals simp_all [leftB, ilen1, ic1, tl_nil]

set_option maxRecDepth 100000 in
set_option maxHeartbeats 4000000 in
theorem rmay_20 (f : Nat) (ih : ∀ (e0 : Ex) (w : World) (S : Nat → Prop) (ev : Value) (r : Bool), e0.size ≤ f → (∀ k, S k → k < w.heap.size) → ExV w S e0 ev → e0.all okNode = r →
      Calls Try.prog 35 #[ev] w fun e w' => e = .returned (.bool r) ∧ Below w.heap.size w w')
    (w : World) (S : Nat → Prop) (hS : ∀ k, S k → k < w.heap.size) (fs : ByteArray) (fn : Int) (fargs : List Ex) (fnames : List ByteArray) (ftypes : List Ty) (fmems : List Mm) (aA aN aT aM : Option Addr) (cA cN cT cM : Nat) (r q pn : Bool)
    (hs : fs.size ≤ maxLen) (hA : fargs.length ≤ cA) (hA9 : cA ≤ maxLen) (hN1 : fnames.length ≤ cN) (hN9 : cN ≤ maxLen) (_hT : ftypes.length ≤ cT) (_hT9 : cT ≤ maxLen) (hM : fmems.length ≤ cM) (hM9 : cM ≤ maxLen)
    (oA : ExsO w S fargs aA) (oN : StrsO w S fnames aN) (oM : MmsO w S fmems aM) (hsum : Ex.sizes fargs + Mm.sizes fmems ≤ f) (hpn : Pl.nameB fs.data.toList = pn)
    (hq : (decide (ftypes.length = 2) && (decide (fargs.length = 1) && leftB fs fn 0 fnames.length 0 fmems.length)) = q) (hqr : (q && (Ex.alls okNode fargs && fmems.all mo)) = r) :
    Calls Try.prog 35 #[.agg #[.int .i64 20, .string fs, .int .i64 fn, .slice aA fargs.length cA, .slice aN fnames.length cN, .slice aT ftypes.length cT, .slice aM fmems.length cM]] w fun e w' => e = .returned (.bool r) ∧ Below w.heap.size w w' := by
  go_enter Try.func35, Try.ntmps35
  have HOA := Lib.hid oA
  have HON := Lib.hid oN
  have HOM := Lib.hid oM
  have HPN := Lib.hid hpn
  have HSM := Lib.hid hsum
  have HQR := Lib.hid hqr
  have HQ := Lib.hid hq
  have hA99 : cA ≤ maxLen := hA9
  have hN99 : cN ≤ maxLen := hN9
  have hM99 : cM ≤ maxLen := hM9
  have IH := Lib.hid ih
  clear oA oN oM hpn hsum hqr hq ih
  unfold maxLen at hA9 hN9 hM9
  obtain ⟨MS, hMS⟩ : ∃ b, b = fmems.all mo := ⟨_, rfl⟩
  rw [← hMS] at HQR
  have HMS := Lib.hid hMS
  clear hMS
  go_wp2
  obtain ⟨w1, hw1⟩ : ∃ w1, w1 = w.alloc (.cells #[.int .i64 20, .string fs, .int .i64 fn, .slice aA fargs.length cA, .slice aN fnames.length cN, .slice aT ftypes.length cT, .slice aM fmems.length cM] 31) := ⟨_, rfl⟩
  have hsz1 : w1.heap.size = w.heap.size + 1 := by rw [hw1]; simp
  have hbw : ∀ W, Below w1.heap.size w1 W → Below w.heap.size w W := fun W hW => ((Below.refl _ w).alloc (Nat.le_refl _) _).trans (hw1 ▸ hW.mono (by omega))
  have hrow : ∀ W, Below w1.heap.size w1 W → ∀ j, W.cell? ⟨w.heap.size, j, none⟩ = (#[.int .i64 20, .string fs, .int .i64 fn, .slice aA fargs.length cA, .slice aN fnames.length cN, .slice aT ftypes.length cT, .slice aM fmems.length cM] : Array Value)[j]? := fun W hW j =>
    cell_of_row W _ j _ _ _ ((hW.block _ (by omega)).trans (by rw [hw1]; exact heap_alloc_new w _))
  have HRow := Lib.hid hrow
  have HBw := Lib.hid hbw
  rw [← hw1]
  clear hbw hw1 hsz1 hrow
  go_loopw [4, 14] (fun _ i wr => ∃ k : Nat, i = .int .i64 k ∧ k ≤ fargs.length ∧ (q && (Ex.alls okNode (fargs.drop k) && MS)) = r ∧ Below w1.heap.size w1 wr) (fun _ i _ => fargs.length - (intOf i).toNat)
  case atStart => exact ⟨0, rfl, Nat.zero_le _, by rw [List.drop_zero]; exact HQR.out, Below.refl _ _⟩
  case round =>
    obtain ⟨k, rfl, hk, hq, hb⟩ := hrel
    have hc := HRow.out wr hb
    have Hq := Lib.hid hq
    have HB := Lib.hid hb
    have HC := Lib.hid hc
    clear hq hb hc
    by_cases hlt : k < fargs.length
    · obtain ⟨bm, om, rfl, hmp⟩ := ExsO.get _ _ (ExsO.keep (fun k hk => ⟨hk, (HBw.out _ HB.out).block k (hS k hk)⟩) _ _ HOA.out) k hlt
      have hd := alls_drop fargs k hlt
      have hsg := sizes_get fargs k hlt
      obtain ⟨m, hm⟩ : ∃ m, m = fargs[k] := ⟨_, rfl⟩
      rw [← hm] at hmp hd hsg
      have hq := Hq.out
      rw [hd] at hq
      have hms : m.size ≤ f := by have := HSM.out; omega
      obtain ⟨xA, yA, xN, yN, xT, yT, xM, yM, f0, f1, f2, f3, f4, f5, f6, hv, _⟩ := hmp.val
      have hSr : ∀ k, S k → k < wr.heap.size := fun k hk => Nat.lt_of_lt_of_le (hS k hk) (HBw.out _ HB.out).size
      have HV := Lib.hid hv
      clear hm hmp hv hd hsg
      rcases hc : m.all okNode with _ | _
      · have hrr : false = r := by rw [← hq, hc]; simp
        subst hrr
        have HC' := Lib.hid hc
        clear hc hq
        go_wp2_with (go_at_call 35; refine (IH.out m _ S _ false hms (fun k hk => by have := hSr k hk; simp; omega) (ExV.keep (fun k hk => ⟨hk, Below.heap_alloc _ _ _ (hSr k hk)⟩) _ _ HV.out) HC'.out).mono ?_; rintro e w' ⟨rfl, hb2⟩; have HB2 := Lib.hid hb2; clear hb2)
        go_ret
        exact ⟨rfl, HBw.out _ ((HB.out.alloc HB.out.size _).trans (HB2.out.mono (by have := HB.out.size; simp; omega)))⟩
      · rw [hc, Bool.true_and] at hq
        have HC' := Lib.hid hc
        have HQ' := Lib.hid hq
        clear hc hq
        go_wp2_with (go_at_call 35; refine (IH.out m _ S _ true hms (fun k hk => by have := hSr k hk; simp; omega) (ExV.keep (fun k hk => ⟨hk, Below.heap_alloc _ _ _ (hSr k hk)⟩) _ _ HV.out) HC'.out).mono ?_; rintro e w' ⟨rfl, hb2⟩; have HB2 := Lib.hid hb2; clear hb2)
        go_roundw
        case rel => exact ⟨k + 1, by go_num, by omega, HQ'.out, (HB.out.alloc HB.out.size _).trans (HB2.out.mono (by have := HB.out.size; simp; omega))⟩
        case measure => simp [intOf]; omega
    · have hk' : k = fargs.length := by omega
      have hq0 : (q && MS) = r := by have := Hq.out; rw [hk', List.drop_length] at this; simpa [Ex.alls] using this
      have HQ0 := Lib.hid hq0
      clear hk' hq0
      obtain ⟨c0, c1, c2, c3, c4, c5, c6⟩ := (⟨HC.out 0, HC.out 1, HC.out 2, HC.out 3, HC.out 4, HC.out 5, HC.out 6⟩ : _ ∧ _ ∧ _ ∧ _ ∧ _ ∧ _ ∧ _)
      go_wp2
      go_loopw [6, 25] (fun _ i wr => ∃ k : Nat, i = .int .i64 k ∧ k ≤ fmems.length ∧ (q && (fmems.drop k).all mo) = r ∧ Below w1.heap.size w1 wr) (fun _ i _ => fmems.length - (intOf i).toNat)
      case atStart => exact ⟨0, rfl, Nat.zero_le _, by rw [List.drop_zero, ← HMS.out]; exact HQ0.out, HB.out⟩
      case round =>
        clear HB Hq HC
        obtain ⟨k, rfl, hk, hq, hb⟩ := hrel
        have hc := HRow.out wr hb
        have Hq := Lib.hid hq
        have HB := Lib.hid hb
        have HC := Lib.hid hc
        clear hq hb hc c0 c1 c2 c3 c4 c5 c6
        by_cases hlt : k < fmems.length
        · obtain ⟨bm, om, rfl, hmp⟩ := MmsO.get _ _ (MmsO.keep (fun k hk => ⟨hk, (HBw.out _ HB.out).block k (hS k hk)⟩) _ _ HOM.out) k hlt
          have hd : (fmems.drop k).all mo = (mo fmems[k] && (fmems.drop (k + 1)).all mo) := by rw [List.drop_eq_getElem_cons hlt]; rfl
          have hsg := msizes_get fmems k hlt
          obtain ⟨m, hm⟩ : ∃ m, m = fmems[k] := ⟨_, rfl⟩
          rw [← hm] at hmp hd hsg
          have hq := Hq.out
          rw [hd] at hq
          have hms : Ex.sizes m.args ≤ f := by have := HSM.out; have := Mm.size_eq m; omega
          obtain ⟨xA, yA, xT, yT, f0, f1, f2, f3, f4, hv⟩ := hmp.val
          have hSr : ∀ k, S k → k < wr.heap.size := fun k hk => Nat.lt_of_lt_of_le (hS k hk) (HBw.out _ HB.out).size
          have HV := Lib.hid hv
          clear hm hmp hv hd hsg
          rcases hc : mo m with _ | _
          · have hrr : false = r := by rw [← hq, hc]; simp
            subst hrr
            have HC' := Lib.hid hc
            clear hc hq
            go_wp2_with (go_at_call 59; refine (rmayM_of f IH.out m _ S _ false hms (fun k hk => by have := hSr k hk; simp; omega) (MmV.keep (fun k hk => ⟨hk, Below.heap_alloc _ _ _ (hSr k hk)⟩) _ _ HV.out) HC'.out).mono ?_; rintro e w' ⟨rfl, hb2⟩; have HB2 := Lib.hid hb2; clear hb2)
            go_ret
            exact ⟨rfl, HBw.out _ ((HB.out.alloc HB.out.size _).trans (HB2.out.mono (by have := HB.out.size; simp; omega)))⟩
          · rw [hc, Bool.true_and] at hq
            have HC' := Lib.hid hc
            have HQ' := Lib.hid hq
            clear hc hq
            go_wp2_with (go_at_call 59; refine (rmayM_of f IH.out m _ S _ true hms (fun k hk => by have := hSr k hk; simp; omega) (MmV.keep (fun k hk => ⟨hk, Below.heap_alloc _ _ _ (hSr k hk)⟩) _ _ HV.out) HC'.out).mono ?_; rintro e w' ⟨rfl, hb2⟩; have HB2 := Lib.hid hb2; clear hb2)
            go_roundw
            case rel => exact ⟨k + 1, by go_num, by omega, HQ'.out, (HB.out.alloc HB.out.size _).trans (HB2.out.mono (by have := HB.out.size; simp; omega))⟩
            case measure => simp [intOf]; omega
        · have hk' : k = fmems.length := by omega
          have hqq : q = r := by have := Hq.out; rw [hk', List.drop_length] at this; simpa using this
          subst hqq
          clear hk' hk
          obtain ⟨c0, c1, c2, c3, c4, c5, c6⟩ := (⟨HC.out 0, HC.out 1, HC.out 2, HC.out 3, HC.out 4, HC.out 5, HC.out 6⟩ : _ ∧ _ ∧ _ ∧ _ ∧ _ ∧ _ ∧ _)
          simp only [List.getElem?_toArray, List.getElem?_cons_zero, List.getElem?_cons_succ] at c0 c1 c2 c3 c4 c5 c6
          clear HQR HRow HC Hq HQ0 HMS IH HSM HOM
          go_wp2_with fail
          go_quiet ((go_at_call 60; exact Calls.quiet_of_same ((rIsName_r fs _ HPN.out _ hs).mono fun _ _ h => ⟨h.1, h.2.symm⟩)))
          have hq := HQ.out
          clear HQ
          by_cases hn0 : fn = 0
          case neg =>
            have hqq : q = false := by rw [← hq]; simp [leftB, hn0]
            subst hqq
            go_wp2
            all_goals go_ret
            all_goals exact ⟨rfl, HBw.out _ (Below.drewN' HB.out _)⟩
          subst hn0
          rcases (len_cases fmems) with ⟨h1fmems, h2fmems⟩ | ⟨h1fmems, h2fmems⟩
          · have hqq : q = false := by rw [← hq]; simp [leftB, h2fmems]
            subst hqq
            go_wp2
            all_goals go_ret
            all_goals exact ⟨rfl, HBw.out _ (Below.drewN' HB.out _)⟩
          subst h2fmems
          rcases (len_cases fnames) with ⟨h1fnames, h2fnames⟩ | ⟨h1fnames, h2fnames⟩
          · have hqq : q = false := by rw [← hq]; simp [leftB, h2fnames]
            subst hqq
            go_wp2
            all_goals go_ret
            all_goals exact ⟨rfl, HBw.out _ (Below.drewN' HB.out _)⟩
          subst h2fnames
          go_wp2
          all_goals go_ret
          all_goals refine ⟨ret_bool ?_, HBw.out _ (Below.drewN' HB.out _)⟩
          all_goals clear HPN
          all_goals go_light
          all_goals simp_all [leftB, ilen2, ic1, tl_nil]

set_option maxRecDepth 100000 in
set_option maxHeartbeats 4000000 in
theorem rmay_else (f : Nat) (ih : ∀ (e0 : Ex) (w : World) (S : Nat → Prop) (ev : Value) (r : Bool), e0.size ≤ f → (∀ k, S k → k < w.heap.size) → ExV w S e0 ev → e0.all okNode = r →
      Calls Try.prog 35 #[ev] w fun e w' => e = .returned (.bool r) ∧ Below w.heap.size w w')
    (kk : Int) (k1 : kk ≠ 1) (k2 : kk ≠ 2) (k3 : kk ≠ 3) (k4 : kk ≠ 4) (k5 : kk ≠ 5) (k6 : kk ≠ 6) (k7 : kk ≠ 7) (k8 : kk ≠ 8) (k9 : kk ≠ 9) (k10 : kk ≠ 10) (k11 : kk ≠ 11) (k12 : kk ≠ 12) (k13 : kk ≠ 13) (k14 : kk ≠ 14) (k15 : kk ≠ 15) (k16 : kk ≠ 16) (k17 : kk ≠ 17) (k18 : kk ≠ 18) (k19 : kk ≠ 19) (k20 : kk ≠ 20) (w : World) (S : Nat → Prop) (hS : ∀ k, S k → k < w.heap.size) (fs : ByteArray) (fn : Int) (fargs : List Ex) (fnames : List ByteArray) (ftypes : List Ty) (fmems : List Mm) (aA aN aT aM : Option Addr) (cA cN cT cM : Nat) (r q pn : Bool)
    (hs : fs.size ≤ maxLen) (hA : fargs.length ≤ cA) (hA9 : cA ≤ maxLen) (hN1 : fnames.length ≤ cN) (hN9 : cN ≤ maxLen) (_hT : ftypes.length ≤ cT) (_hT9 : cT ≤ maxLen) (hM : fmems.length ≤ cM) (hM9 : cM ≤ maxLen)
    (oA : ExsO w S fargs aA) (oN : StrsO w S fnames aN) (oM : MmsO w S fmems aM) (hsum : Ex.sizes fargs + Mm.sizes fmems ≤ f) (hpn : Pl.nameB fs.data.toList = pn)
    (hq : false = q) (hqr : (q && (Ex.alls okNode fargs && fmems.all mo)) = r) :
    Calls Try.prog 35 #[.agg #[.int .i64 kk, .string fs, .int .i64 fn, .slice aA fargs.length cA, .slice aN fnames.length cN, .slice aT ftypes.length cT, .slice aM fmems.length cM]] w fun e w' => e = .returned (.bool r) ∧ Below w.heap.size w w' := by
  go_enter Try.func35, Try.ntmps35
  have HOA := Lib.hid oA
  have HON := Lib.hid oN
  have HOM := Lib.hid oM
  have HPN := Lib.hid hpn
  have HSM := Lib.hid hsum
  have HQR := Lib.hid hqr
  have HQ := Lib.hid hq
  have hA99 : cA ≤ maxLen := hA9
  have hN99 : cN ≤ maxLen := hN9
  have hM99 : cM ≤ maxLen := hM9
  have IH := Lib.hid ih
  clear oA oN oM hpn hsum hqr hq ih
  unfold maxLen at hA9 hN9 hM9
  obtain ⟨MS, hMS⟩ : ∃ b, b = fmems.all mo := ⟨_, rfl⟩
  rw [← hMS] at HQR
  have HMS := Lib.hid hMS
  clear hMS
  go_wp2
  obtain ⟨w1, hw1⟩ : ∃ w1, w1 = w.alloc (.cells #[.int .i64 kk, .string fs, .int .i64 fn, .slice aA fargs.length cA, .slice aN fnames.length cN, .slice aT ftypes.length cT, .slice aM fmems.length cM] 31) := ⟨_, rfl⟩
  have hsz1 : w1.heap.size = w.heap.size + 1 := by rw [hw1]; simp
  have hbw : ∀ W, Below w1.heap.size w1 W → Below w.heap.size w W := fun W hW => ((Below.refl _ w).alloc (Nat.le_refl _) _).trans (hw1 ▸ hW.mono (by omega))
  have hrow : ∀ W, Below w1.heap.size w1 W → ∀ j, W.cell? ⟨w.heap.size, j, none⟩ = (#[.int .i64 kk, .string fs, .int .i64 fn, .slice aA fargs.length cA, .slice aN fnames.length cN, .slice aT ftypes.length cT, .slice aM fmems.length cM] : Array Value)[j]? := fun W hW j =>
    cell_of_row W _ j _ _ _ ((hW.block _ (by omega)).trans (by rw [hw1]; exact heap_alloc_new w _))
  have HRow := Lib.hid hrow
  have HBw := Lib.hid hbw
  rw [← hw1]
  clear hbw hw1 hsz1 hrow
  go_loopw [4, 14] (fun _ i wr => ∃ k : Nat, i = .int .i64 k ∧ k ≤ fargs.length ∧ (q && (Ex.alls okNode (fargs.drop k) && MS)) = r ∧ Below w1.heap.size w1 wr) (fun _ i _ => fargs.length - (intOf i).toNat)
  case atStart => exact ⟨0, rfl, Nat.zero_le _, by rw [List.drop_zero]; exact HQR.out, Below.refl _ _⟩
  case round =>
    obtain ⟨k, rfl, hk, hq, hb⟩ := hrel
    have hc := HRow.out wr hb
    have Hq := Lib.hid hq
    have HB := Lib.hid hb
    have HC := Lib.hid hc
    clear hq hb hc
    by_cases hlt : k < fargs.length
    · obtain ⟨bm, om, rfl, hmp⟩ := ExsO.get _ _ (ExsO.keep (fun k hk => ⟨hk, (HBw.out _ HB.out).block k (hS k hk)⟩) _ _ HOA.out) k hlt
      have hd := alls_drop fargs k hlt
      have hsg := sizes_get fargs k hlt
      obtain ⟨m, hm⟩ : ∃ m, m = fargs[k] := ⟨_, rfl⟩
      rw [← hm] at hmp hd hsg
      have hq := Hq.out
      rw [hd] at hq
      have hms : m.size ≤ f := by have := HSM.out; omega
      obtain ⟨xA, yA, xN, yN, xT, yT, xM, yM, f0, f1, f2, f3, f4, f5, f6, hv, _⟩ := hmp.val
      have hSr : ∀ k, S k → k < wr.heap.size := fun k hk => Nat.lt_of_lt_of_le (hS k hk) (HBw.out _ HB.out).size
      have HV := Lib.hid hv
      clear hm hmp hv hd hsg
      rcases hc : m.all okNode with _ | _
      · have hrr : false = r := by rw [← hq, hc]; simp
        subst hrr
        have HC' := Lib.hid hc
        clear hc hq
        go_wp2_with (go_at_call 35; refine (IH.out m _ S _ false hms (fun k hk => by have := hSr k hk; simp; omega) (ExV.keep (fun k hk => ⟨hk, Below.heap_alloc _ _ _ (hSr k hk)⟩) _ _ HV.out) HC'.out).mono ?_; rintro e w' ⟨rfl, hb2⟩; have HB2 := Lib.hid hb2; clear hb2)
        go_ret
        exact ⟨rfl, HBw.out _ ((HB.out.alloc HB.out.size _).trans (HB2.out.mono (by have := HB.out.size; simp; omega)))⟩
      · rw [hc, Bool.true_and] at hq
        have HC' := Lib.hid hc
        have HQ' := Lib.hid hq
        clear hc hq
        go_wp2_with (go_at_call 35; refine (IH.out m _ S _ true hms (fun k hk => by have := hSr k hk; simp; omega) (ExV.keep (fun k hk => ⟨hk, Below.heap_alloc _ _ _ (hSr k hk)⟩) _ _ HV.out) HC'.out).mono ?_; rintro e w' ⟨rfl, hb2⟩; have HB2 := Lib.hid hb2; clear hb2)
        go_roundw
        case rel => exact ⟨k + 1, by go_num, by omega, HQ'.out, (HB.out.alloc HB.out.size _).trans (HB2.out.mono (by have := HB.out.size; simp; omega))⟩
        case measure => simp [intOf]; omega
    · have hk' : k = fargs.length := by omega
      have hq0 : (q && MS) = r := by have := Hq.out; rw [hk', List.drop_length] at this; simpa [Ex.alls] using this
      have HQ0 := Lib.hid hq0
      clear hk' hq0
      obtain ⟨c0, c1, c2, c3, c4, c5, c6⟩ := (⟨HC.out 0, HC.out 1, HC.out 2, HC.out 3, HC.out 4, HC.out 5, HC.out 6⟩ : _ ∧ _ ∧ _ ∧ _ ∧ _ ∧ _ ∧ _)
      go_wp2
      go_loopw [6, 25] (fun _ i wr => ∃ k : Nat, i = .int .i64 k ∧ k ≤ fmems.length ∧ (q && (fmems.drop k).all mo) = r ∧ Below w1.heap.size w1 wr) (fun _ i _ => fmems.length - (intOf i).toNat)
      case atStart => exact ⟨0, rfl, Nat.zero_le _, by rw [List.drop_zero, ← HMS.out]; exact HQ0.out, HB.out⟩
      case round =>
        clear HB Hq HC
        obtain ⟨k, rfl, hk, hq, hb⟩ := hrel
        have hc := HRow.out wr hb
        have Hq := Lib.hid hq
        have HB := Lib.hid hb
        have HC := Lib.hid hc
        clear hq hb hc c0 c1 c2 c3 c4 c5 c6
        by_cases hlt : k < fmems.length
        · obtain ⟨bm, om, rfl, hmp⟩ := MmsO.get _ _ (MmsO.keep (fun k hk => ⟨hk, (HBw.out _ HB.out).block k (hS k hk)⟩) _ _ HOM.out) k hlt
          have hd : (fmems.drop k).all mo = (mo fmems[k] && (fmems.drop (k + 1)).all mo) := by rw [List.drop_eq_getElem_cons hlt]; rfl
          have hsg := msizes_get fmems k hlt
          obtain ⟨m, hm⟩ : ∃ m, m = fmems[k] := ⟨_, rfl⟩
          rw [← hm] at hmp hd hsg
          have hq := Hq.out
          rw [hd] at hq
          have hms : Ex.sizes m.args ≤ f := by have := HSM.out; have := Mm.size_eq m; omega
          obtain ⟨xA, yA, xT, yT, f0, f1, f2, f3, f4, hv⟩ := hmp.val
          have hSr : ∀ k, S k → k < wr.heap.size := fun k hk => Nat.lt_of_lt_of_le (hS k hk) (HBw.out _ HB.out).size
          have HV := Lib.hid hv
          clear hm hmp hv hd hsg
          rcases hc : mo m with _ | _
          · have hrr : false = r := by rw [← hq, hc]; simp
            subst hrr
            have HC' := Lib.hid hc
            clear hc hq
            go_wp2_with (go_at_call 59; refine (rmayM_of f IH.out m _ S _ false hms (fun k hk => by have := hSr k hk; simp; omega) (MmV.keep (fun k hk => ⟨hk, Below.heap_alloc _ _ _ (hSr k hk)⟩) _ _ HV.out) HC'.out).mono ?_; rintro e w' ⟨rfl, hb2⟩; have HB2 := Lib.hid hb2; clear hb2)
            go_ret
            exact ⟨rfl, HBw.out _ ((HB.out.alloc HB.out.size _).trans (HB2.out.mono (by have := HB.out.size; simp; omega)))⟩
          · rw [hc, Bool.true_and] at hq
            have HC' := Lib.hid hc
            have HQ' := Lib.hid hq
            clear hc hq
            go_wp2_with (go_at_call 59; refine (rmayM_of f IH.out m _ S _ true hms (fun k hk => by have := hSr k hk; simp; omega) (MmV.keep (fun k hk => ⟨hk, Below.heap_alloc _ _ _ (hSr k hk)⟩) _ _ HV.out) HC'.out).mono ?_; rintro e w' ⟨rfl, hb2⟩; have HB2 := Lib.hid hb2; clear hb2)
            go_roundw
            case rel => exact ⟨k + 1, by go_num, by omega, HQ'.out, (HB.out.alloc HB.out.size _).trans (HB2.out.mono (by have := HB.out.size; simp; omega))⟩
            case measure => simp [intOf]; omega
        · have hk' : k = fmems.length := by omega
          have hqq : q = r := by have := Hq.out; rw [hk', List.drop_length] at this; simpa using this
          subst hqq
          clear hk' hk
          obtain ⟨c0, c1, c2, c3, c4, c5, c6⟩ := (⟨HC.out 0, HC.out 1, HC.out 2, HC.out 3, HC.out 4, HC.out 5, HC.out 6⟩ : _ ∧ _ ∧ _ ∧ _ ∧ _ ∧ _ ∧ _)
          simp only [List.getElem?_toArray, List.getElem?_cons_zero, List.getElem?_cons_succ] at c0 c1 c2 c3 c4 c5 c6
          clear HQR HRow HC Hq HQ0 HMS IH HSM HOM
          go_wp2_with fail
          go_quiet ((go_at_call 60; exact Calls.quiet_of_same ((rIsName_r fs _ HPN.out _ hs).mono fun _ _ h => ⟨h.1, h.2.symm⟩)))
          have hq := HQ.out
          clear HQ
          by_cases hn0 : fn = 0
          case neg =>
            have hqq : q = false := hq.symm
            subst hqq
            go_wp2
            all_goals go_ret
            all_goals exact ⟨rfl, HBw.out _ (Below.drewN' HB.out _)⟩
          subst hn0
          rcases (len_cases fmems) with ⟨h1fmems, h2fmems⟩ | ⟨h1fmems, h2fmems⟩
          · have hqq : q = false := hq.symm
            subst hqq
            go_wp2
            all_goals go_ret
            all_goals exact ⟨rfl, HBw.out _ (Below.drewN' HB.out _)⟩
          subst h2fmems
          rcases (len_cases fnames) with ⟨h1fnames, h2fnames⟩ | ⟨h1fnames, h2fnames⟩
          · have hqq : q = false := hq.symm
            subst hqq
            go_wp2
            all_goals go_ret
            all_goals exact ⟨rfl, HBw.out _ (Below.drewN' HB.out _)⟩
          subst h2fnames
          rcases (len_cases ftypes) with ⟨h1ftypes, h2ftypes⟩ | ⟨h1ftypes, h2ftypes⟩
          · have hqq : q = false := hq.symm
            subst hqq
            go_wp2
            all_goals go_ret
            all_goals exact ⟨rfl, HBw.out _ (Below.drewN' HB.out _)⟩
          subst h2ftypes
          have hqq : q = false := hq.symm
          subst hqq
          go_wp2
          all_goals go_ret
          all_goals exact ⟨rfl, HBw.out _ (Below.drewN' HB.out _)⟩

end Go.Proofs.Ythgbldkcgfggfaa
