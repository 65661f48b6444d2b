/-
  trefoilref02.deepType.
-/
import Derived.Test.YthgbldkcgfggfaaCheck
import Derived.Test.YthgbldkcgfggfaaRByte
namespace Go.Proofs.Ythgbldkcgfggfaa
open Go.RowKit

mutual
theorem Ty.deep_le : ∀ e : Ty, e.deep ≤ e.size
  | .mk _ _ args _ _ => by have := Ty.deeps_le args; simp only [Ty.deep, Ty.size]; omega
theorem Ty.deeps_le : ∀ l : List Ty, Ty.deeps l ≤ Ty.sizes l
  | [] => by simp [Ty.deeps]
  | e :: r => by have := Ty.deep_le e; have := Ty.deeps_le r; simp only [Ty.deeps, Ty.sizes]; omega
end

theorem Ty.szget : ∀ (l : List Ty) (k : Nat) (h : k < l.length), l[k].size ≤ Ty.sizes l
  | e :: r, 0, _ => by simp only [List.getElem_cons_zero, Ty.sizes]; omega
  | e :: r, k + 1, h => by have := Ty.szget r k (by simpa using h); simp only [List.getElem_cons_succ, Ty.sizes]; omega

set_option maxRecDepth 100000 in
set_option maxHeartbeats 2000000 in
theorem rdeepT_any : ∀ (f : Nat) (e0 : Ty) (w : World) (S : Nat → Prop) (ev : Value), e0.size ≤ f → f ≤ 1000000 → (∀ k, S k → k < w.heap.size) → TyV w S e0 ev →
    Calls Try.prog 38 #[ev] w fun e w' => e = .returned (.int .i64 e0.deep) ∧ Below w.heap.size w w' := by
  intro f
  induction f with
  | zero => intro e0 w S ev h; cases e0; simp [Ty.size] at h
  | succ f ih =>
    intro e0 w S ev hf hN hS he
    have IH := Lib.hid ih
    clear ih
    obtain ⟨fk, fs, fargs, flabels, fop⟩ := e0
    unfold TyV at he
    obtain ⟨aA, cA, aL, cL, rfl, hs, hA, hA9, hL1, hL9, oA, oL⟩ := he
    have HOA := Lib.hid oA
    clear oA oL
    go_enter Try.func38, Try.ntmps38
    have hsum : 1 + Ty.sizes fargs ≤ f + 1 := by simpa [Ty.size] using hf
    obtain ⟨DA, hDA⟩ : ∃ N, N = Ty.deeps fargs := ⟨_, rfl⟩
    have hes : (Ty.mk fk fs fargs flabels fop).deep = 1 + DA := by rw [hDA]; simp [Ty.deep]
    have hle : DA ≤ 1000000 := by
      have h1 := Ty.deeps_le fargs
      omega
    have HDA := Lib.hid hDA
    have HSM := Lib.hid hsum
    clear hDA
    rw [hes]
    clear hes hf hsum
    unfold maxLen at hA9
    go_wp2
    obtain ⟨w1, hw1⟩ : ∃ w1, w1 = w.alloc (.cells #[.int .i64 fk, .string fs, .slice aA fargs.length cA, .slice aL flabels.length cL, .bool fop] 42) := ⟨_, rfl⟩
    have hsz1 : w1.heap.size = w.heap.size + 1 := by rw [hw1]; simp
    have hbw : ∀ W, Below w1.heap.size w1 W → Below w.heap.size w W := fun W hW => ((Below.refl _ w).alloc (Nat.le_refl _) _).trans (hw1 ▸ hW.mono (by omega))
    have HBw := Lib.hid hbw
    rw [← hw1]
    clear hbw hw1 hsz1
    go_loopw [3, 5, 9] (fun s _ i wr => ∃ k acc : Nat, s = .int .i64 acc ∧ i = .int .i64 k ∧ k ≤ fargs.length ∧ max acc (Ty.deeps (fargs.drop k)) = DA ∧ Below w1.heap.size w1 wr) (fun _ _ i _ => fargs.length - (intOf i).toNat)
    case atStart => exact ⟨0, 0, rfl, rfl, Nat.zero_le _, by rw [HDA.out, List.drop_zero, Nat.zero_max], Below.refl _ _⟩
    case round =>
      obtain ⟨k, acc, rfl, rfl, hk, hq, hb⟩ := hrel
      have Hq := Lib.hid hq
      have HB := Lib.hid hb
      clear hq hb
      by_cases hlt : k < fargs.length
      · obtain ⟨bm, om, rfl, hmp⟩ := TysO.get _ _ (TysO.keep (fun k hk => ⟨hk, (HBw.out _ HB.out).block k (hS k hk)⟩) _ _ HOA.out) k hlt
        have hd : Ty.deeps (fargs.drop k) = max fargs[k].deep (Ty.deeps (fargs.drop (k + 1))) := by rw [List.drop_eq_getElem_cons hlt]; simp [Ty.deeps]
        have hsg := Ty.szget fargs k hlt
        obtain ⟨m, hm⟩ : ∃ m, m = fargs[k] := ⟨_, rfl⟩
        rw [← hm] at hmp hd hsg
        have hq := Hq.out
        have hacc : acc ≤ 1000000 := by omega
        have hms : m.size ≤ f := by have := HSM.out; omega
        have hms2 : m.size ≤ 1000000 := by omega
        have hms3 : m.deep ≤ 1000000 := by have := Ty.deep_le m; omega
        have hq' : max (max acc m.deep) (Ty.deeps (fargs.drop (k + 1))) = DA := by omega
        have HQ' := Lib.hid hq'
        obtain ⟨xA, yA, xL, yL, f0, f1, f2, f3, f4, hv⟩ := hmp.val
        have hSr : ∀ k, S k → k < wr.heap.size := fun k hk => Nat.lt_of_lt_of_le (hS k hk) (HBw.out _ HB.out).size
        have HV := Lib.hid hv
        clear hm hmp hv hq hq' hd hsg
        go_wp2_with (go_at_call 38; refine (IH.out m _ S _ hms (by omega) (fun k hk => by have := hSr k hk; simp; omega) (TyV.keep (fun k hk => ⟨hk, Below.heap_alloc _ _ _ (hSr k hk)⟩) _ _ HV.out)).mono ?_; rintro e w' ⟨rfl, hb2⟩; have HB2 := Lib.hid hb2; clear hb2)
        go_roundw
        case rel => exact ⟨k + 1, max acc m.deep, by go_num, by go_num, by omega, HQ'.out, (HB.out.alloc HB.out.size _).trans (HB2.out.mono (by have := HB.out.size; simp; omega))⟩
        case measure => simp [intOf]; omega
      · have hk' : k = fargs.length := by omega
        have hacc : DA = acc := by have := Hq.out; rw [hk', List.drop_length] at this; simpa [Ty.deeps] using this.symm
        subst hacc
        clear hk'
        go_wp2
        go_ret
        exact ⟨by go_num, HBw.out _ HB.out⟩

theorem talls_drop (l : List Ty) (k : Nat) (h : k < l.length) : Ty.alls tyOk (l.drop k) = (l[k].all tyOk && Ty.alls tyOk (l.drop (k + 1))) := by
  rw [List.drop_eq_getElem_cons h]; rfl

end Go.Proofs.Ythgbldkcgfggfaa
