/-
  trefoilref02.Deep.
-/
import Derived.Test.YthgbldkcgfggfaaSize
namespace Go.Proofs.Ythgbldkcgfggfaa
open Go.RowKit

theorem sizes_get : ∀ (l : List Ex) (k : Nat) (h : k < l.length), l[k].size ≤ Ex.sizes l
  | e :: r, 0, _ => by simp [Ex.sizes]
  | e :: r, k + 1, h => by have := sizes_get r k (by simpa using h); simp only [List.getElem_cons_succ, Ex.sizes]; omega
theorem msizes_get : ∀ (l : List Mm) (k : Nat) (h : k < l.length), l[k].size ≤ Mm.sizes l
  | e :: r, 0, _ => by simp [Mm.sizes]
  | e :: r, k + 1, h => by have := msizes_get r k (by simpa using h); simp only [List.getElem_cons_succ, Mm.sizes]; omega
mutual
theorem Ex.deep_le : ∀ e : Ex, e.deep ≤ e.size
  | .mk _ _ _ args _ _ mems => by have := Ex.deeps_le args; have := Mm.deeps_le mems; simp only [Ex.deep, Ex.size]; omega
theorem Ex.deeps_le : ∀ l : List Ex, Ex.deeps l ≤ Ex.sizes l
  | [] => by simp [Ex.deeps]
  | e :: r => by have := Ex.deep_le e; have := Ex.deeps_le r; simp only [Ex.deeps, Ex.sizes]; omega
theorem Mm.deeps_le : ∀ l : List Mm, Mm.deeps l ≤ Mm.sizes l
  | [] => by simp [Mm.deeps]
  | e :: r => by have := Mm.deep_le e; have := Mm.deeps_le r; simp only [Mm.deeps, Mm.sizes]; omega
theorem Mm.deep_le : ∀ m : Mm, m.deep ≤ m.size
  | .mk _ _ _ args _ => by have := Ex.deeps_le args; simp only [Mm.deep, Mm.size]; omega
end

set_option maxRecDepth 100000 in
set_option maxHeartbeats 2000000 in
theorem rdeep_any : ∀ (f : Nat) (e0 : Ex) (w : World) (S : Nat → Prop) (ev : Value), e0.size ≤ f → f ≤ 1000000 → (∀ k, S k → k < w.heap.size) → ExV w S e0 ev →
    Calls Try.prog 17 #[ev] w fun e w' => e = .returned (.int .i64 e0.deep) ∧ Below w.heap.size w w' := by
  intro f
  induction f with
  | zero => intro e0 w S ev h; cases e0; simp [Ex.size] at h
  | succ f ih =>
    intro e0 w S ev hf hN hS he
    have IH := Lib.hid ih
    have HE := Lib.hid he
    clear ih
    obtain ⟨fk, fs, fn, fargs, fnames, ftypes, fmems⟩ := e0
    unfold ExV at he
    obtain ⟨aA, cA, aN, cN, aT, cT, aM, cM, rfl, hs, hA, hA9, hN1, hN9, hT, hT9, hM, hM9, oA, oN, oT, oM⟩ := he
    have HOA := Lib.hid oA
    have HOM := Lib.hid oM
    clear oA oN oT oM
    go_enter Try.func17, Try.ntmps17
    have hsum : 1 + Ex.sizes fargs + Mm.sizes fmems ≤ f + 1 := by simpa [Ex.size] using hf
    obtain ⟨NA, hNA⟩ : ∃ N, N = Ex.sizes fargs := ⟨_, rfl⟩
    obtain ⟨NM, hNM⟩ : ∃ N, N = Mm.sizes fmems := ⟨_, rfl⟩
    obtain ⟨DA, hDA⟩ : ∃ N, N = Ex.deeps fargs := ⟨_, rfl⟩
    obtain ⟨DM, hDM⟩ : ∃ N, N = Mm.deeps fmems := ⟨_, rfl⟩
    have hes : (Ex.mk fk fs fn fargs fnames ftypes fmems).deep = 1 + max DA DM := by rw [hDA, hDM]; simp [Ex.deep]
    have hle : DA ≤ 1000000 ∧ DM ≤ 1000000 := by
      have h1 := Ex.deeps_le fargs
      have h2 := Mm.deeps_le fmems
      omega
    have HDA := Lib.hid hDA
    have HDM := Lib.hid hDM
    clear hDA hDM
    rw [← hNA, ← hNM] at hsum
    rw [hes]
    have HNA := Lib.hid hNA
    have HNM := Lib.hid hNM
    clear hes hf hNA hNM
    unfold maxLen at hA9 hM9
    go_wp2
    obtain ⟨w1, hw1⟩ : ∃ w1, w1 = w.alloc (.cells #[.int .i64 fk, .string fs, .int .i64 fn, .slice aA fargs.length cA, .slice aN fnames.length cN, .slice aT ftypes.length cT, .slice aM fmems.length cM] 31) := ⟨_, rfl⟩
    have hsz1 : w1.heap.size = w.heap.size + 1 := by rw [hw1]; simp
    have hrow : ∀ W, Below w1.heap.size w1 W → ∀ j, W.cell? ⟨w.heap.size, j, none⟩ = (#[.int .i64 fk, .string fs, .int .i64 fn, .slice aA fargs.length cA, .slice aN fnames.length cN, .slice aT ftypes.length cT, .slice aM fmems.length cM] : Array Value)[j]? := fun W hW j =>
      cell_of_row W _ j _ _ _ ((hW.block _ (by omega)).trans (by rw [hw1]; exact heap_alloc_new w _))
    have hbw : ∀ W, Below w1.heap.size w1 W → Below w.heap.size w W := fun W hW => ((Below.refl _ w).alloc (Nat.le_refl _) _).trans (hw1 ▸ hW.mono (by omega))
    have HRow := Lib.hid hrow
    have HBw := Lib.hid hbw
    have Hsz := Lib.hid hsz1
    rw [← hw1]
    clear hrow hbw hw1 hsz1
    go_loopw [3, 5, 14] (fun s _ i wr => ∃ k acc : Nat, s = .int .i64 acc ∧ i = .int .i64 k ∧ k ≤ fargs.length ∧ max acc (Ex.deeps (fargs.drop k)) = DA ∧ Below w1.heap.size w1 wr) (fun _ _ i _ => fargs.length - (intOf i).toNat)
    case atStart => exact ⟨0, 0, rfl, rfl, Nat.zero_le _, by rw [HDA.out, List.drop_zero, Nat.zero_max], Below.refl _ _⟩
    case round =>
      obtain ⟨k, acc, rfl, rfl, hk, hq, hb⟩ := hrel
      have hc := HRow.out wr hb
      have Hq := Lib.hid hq
      have HB := Lib.hid hb
      have HC := Lib.hid hc
      clear hq hb hc
      by_cases hlt : k < fargs.length
      · obtain ⟨bm, om, rfl, hmp⟩ := ExsO.get _ _ (ExsO.keep (fun k hk => ⟨hk, (HBw.out _ HB.out).block k (hS k hk)⟩) _ _ HOA.out) k hlt
        have hd : Ex.deeps (fargs.drop k) = max fargs[k].deep (Ex.deeps (fargs.drop (k + 1))) := by rw [List.drop_eq_getElem_cons hlt]; simp [Ex.deeps]
        have hsg := sizes_get fargs k hlt
        obtain ⟨m, hm⟩ : ∃ m, m = fargs[k] := ⟨_, rfl⟩
        rw [← hm] at hmp hd hsg
        have hq := Hq.out
        have hacc : acc ≤ 1000000 := by omega
        have hms : m.size ≤ f := by have := HNA.out; omega
        have hms2 : m.size ≤ 1000000 := by omega
        have hms3 : m.deep ≤ 1000000 := by have := Ex.deep_le m; omega
        have hq' : max (max acc m.deep) (Ex.deeps (fargs.drop (k + 1))) = DA := by omega
        have HQ' := Lib.hid hq'
        obtain ⟨xA, yA, xN, yN, xT, yT, xM, yM, f0, f1, f2, f3, f4, f5, f6, hv, _⟩ := hmp.val
        have hSr : ∀ k, S k → k < wr.heap.size := fun k hk => Nat.lt_of_lt_of_le (hS k hk) (HBw.out _ HB.out).size
        have HV := Lib.hid hv
        clear hm hmp hv hq hq' hd hsg
        go_wp2_with (go_at_call 17; refine (IH.out m _ S _ hms (by omega) (fun k hk => by have := hSr k hk; simp; omega) (ExV.keep (fun k hk => ⟨hk, Below.heap_alloc _ _ _ (hSr k hk)⟩) _ _ HV.out)).mono ?_; rintro e w' ⟨rfl, hb2⟩; have HB2 := Lib.hid hb2; clear hb2)
        go_roundw
        case rel => exact ⟨k + 1, max acc m.deep, by go_num, by go_num, by omega, HQ'.out, (HB.out.alloc HB.out.size _).trans (HB2.out.mono (by have := HB.out.size; simp; omega))⟩
        case measure => simp [intOf]; omega
      · have hk' : k = fargs.length := by omega
        have hacc : DA = acc := by have := Hq.out; rw [hk', List.drop_length] at this; simpa [Ex.deeps] using this.symm
        subst hacc
        clear hk'
        obtain ⟨c0, c1, c2, c3, c4, c5, c6⟩ := (⟨HC.out 0, HC.out 1, HC.out 2, HC.out 3, HC.out 4, HC.out 5, HC.out 6⟩ : _ ∧ _ ∧ _ ∧ _ ∧ _ ∧ _ ∧ _)
        go_wp2
        go_loopw [3, 7, 8, 10, 26] (fun s _ _ _ i wr => ∃ k acc : Nat, s = .int .i64 acc ∧ i = .int .i64 k ∧ k ≤ fmems.length ∧ max acc (Mm.deeps (fmems.drop k)) = max DA DM ∧ Below w1.heap.size w1 wr) (fun _ _ _ _ i _ => fmems.length - (intOf i).toNat)
        case atStart => exact ⟨0, DA, rfl, rfl, Nat.zero_le _, by rw [HDM.out, List.drop_zero], HB.out⟩
        case round =>
          clear HB HRow Hq
          obtain ⟨k, acc, rfl, rfl, hk, hq, hb⟩ := hrel
          have Hq := Lib.hid hq
          have HB := Lib.hid hb
          clear hq hb
          by_cases hlt : k < fmems.length
          · obtain ⟨bm, om, rfl, hmp⟩ := MmsO.get _ _ (MmsO.keep (fun k hk => ⟨hk, (HBw.out _ HB.out).block k (hS k hk)⟩) _ _ HOM.out) k hlt
            have hd : Mm.deeps (fmems.drop k) = max fmems[k].deep (Mm.deeps (fmems.drop (k + 1))) := by rw [List.drop_eq_getElem_cons hlt]; simp [Mm.deeps]
            have hsg := msizes_get fmems k hlt
            obtain ⟨m, hm⟩ : ∃ m, m = fmems[k] := ⟨_, rfl⟩
            rw [← hm] at hmp hd hsg
            have hmd : m.deep = 1 + Ex.deeps m.args := by cases m; simp [Mm.deep, Mm.args]
            have hmd2 : m.deep ≤ 1000000 := by have := Mm.deep_le m; have := HNM.out; omega
            have hq := Hq.out
            have hms : m.size = 1 + Ex.sizes m.args := Mm.size_eq m
            have hacc : acc ≤ 1000000 := by omega
            have hxf : Ex.sizes m.args ≤ f := by have := HNM.out; omega
            have HXF := Lib.hid hxf
            have hq' : max (max acc (1 + Ex.deeps m.args)) (Mm.deeps (fmems.drop (k + 1))) = max DA DM := by omega
            have HQ' := Lib.hid hq'
            obtain ⟨xA, yA, xT, yT, f0, f1, f2, f3, f4, hv⟩ := hmp.val
            have HV := Lib.hid hv
            clear hm hmp hv hq hq' hd hsg hxf
            have hma : m.args.length ≤ yA ∧ yA ≤ 2 ^ 63 - 1 ∧ ExsO wr S m.args xA := by
              have h := HV.out
              cases m
              unfold MmV at h
              obtain ⟨a1, a2, a3, a4, e, h⟩ := h
              simp only [Mm.kind, Mm.name, Mm.as', Mm.args, Mm.types] at e ⊢
              simp only [Value.agg.injEq, Array.mk.injEq, List.cons.injEq, Value.slice.injEq] at e
              obtain ⟨rfl, _, rfl⟩ := e.2.2.2.1
              unfold maxLen at h
              exact ⟨h.2.2.1, h.2.2.2.1, h.2.2.2.2.2.2.1⟩
            have HMA := Lib.hid hma
            obtain ⟨hyA, hyA9, _⟩ := hma
            obtain ⟨NX, hNX⟩ : ∃ N, N = Ex.deeps m.args := ⟨_, rfl⟩
            have hmx : 1 + NX ≤ 1000000 := by omega
            have HNX := Lib.hid hNX
            clear hNX
            go_wp2
            obtain ⟨w2, hw2⟩ : ∃ w2, w2 = wr.alloc (.cells #[.int .i64 m.kind, .string m.name, .string m.as', .slice xA m.args.length yA, .slice xT m.types.length yT] 49) := ⟨_, rfl⟩
            have hb12 : Below w1.heap.size w1 w2 := by rw [hw2]; exact HB.out.alloc HB.out.size _
            have HX := Lib.hid (ExsO.keep (fun k hk => ⟨hk, by rw [hw2]; exact Below.heap_alloc _ _ _ (Nat.lt_of_lt_of_le (hS k hk) (HBw.out _ HB.out).size)⟩) _ _ HMA.out.2.2 : ExsO w2 S m.args xA)
            have HB12 := Lib.hid hb12
            rw [← hw2]
            clear hw2 hb12
            go_loopw [8, 10, 33] (fun s _ i wi => ∃ k acc' : Nat, s = .int .i64 acc' ∧ i = .int .i64 k ∧ k ≤ m.args.length ∧ max acc' (1 + Ex.deeps (m.args.drop k)) = 1 + NX ∧ 1 ≤ acc' ∧ Below w2.heap.size w2 wi) (fun _ _ i _ => m.args.length - (intOf i).toNat)
            case atStart => exact ⟨0, 1, rfl, rfl, Nat.zero_le _, by rw [HNX.out, List.drop_zero]; omega, Nat.le_refl _, Below.refl _ _⟩
            case round =>
              obtain ⟨k2, acc2, rfl, rfl, hk2, hq2, ha2, hb2⟩ := hrel
              have Hq2 := Lib.hid hq2
              have HB2 := Lib.hid hb2
              clear hq2 hb2
              have hbw2 : Below w.heap.size w wr := HBw.out _ (HB12.out.trans (HB2.out.mono HB12.out.size))
              have HBw2 := Lib.hid hbw2
              clear hbw2
              by_cases hlt2 : k2 < m.args.length
              · have hsame : ∀ k, S k → S k ∧ wr.heap[k]? = w2.heap[k]? := fun k hk => ⟨hk, HB2.out.block k (Nat.lt_of_lt_of_le (hS k hk) (HBw.out _ HB12.out).size)⟩
                obtain ⟨b2, o2, rfl, hp2⟩ := ExsO.get _ _ (ExsO.keep hsame _ _ HX.out) k2 hlt2
                have hd : Ex.deeps (m.args.drop k2) = max m.args[k2].deep (Ex.deeps (m.args.drop (k2 + 1))) := by rw [List.drop_eq_getElem_cons hlt2]; simp [Ex.deeps]
                have hsg := sizes_get m.args k2 hlt2
                obtain ⟨x, hx⟩ : ∃ x, x = m.args[k2] := ⟨_, rfl⟩
                rw [← hx] at hp2 hd hsg
                have hq := Hq2.out
                have hacc2 : acc2 ≤ 1000000 := by omega
                have hxs : x.size ≤ f := by have := HXF.out; omega
                have hxs2 : x.size ≤ 1000000 := by omega
                have hxs3 : x.deep ≤ 1000000 := by have := Ex.deep_le x; omega
                have hq' : max (max acc2 (x.deep + 1)) (1 + Ex.deeps (m.args.drop (k2 + 1))) = 1 + NX := by omega
                have HQ2 := Lib.hid hq'
                obtain ⟨zA, tA, zN, tN, zT, tT, zM, tM, r0, r1, r2, r3, r4, r5, r6, hv, _⟩ := hp2.val
                have hSr : ∀ k, S k → k < wr.heap.size := fun k hk => Nat.lt_of_lt_of_le (hS k hk) HBw2.out.size
                have HV2 := Lib.hid hv
                clear hx hp2 hv hq hq' hd hsg hsame
                go_wp2_with (go_at_call 17; refine (IH.out x _ S _ hxs (by omega) (fun k hk => by have := hSr k hk; simp; omega) (ExV.keep (fun k hk => ⟨hk, Below.heap_alloc _ _ _ (hSr k hk)⟩) _ _ HV2.out)).mono ?_; rintro e w' ⟨rfl, hb3⟩; have HB3 := Lib.hid hb3; clear hb3)
                go_roundw
                case rel => exact ⟨k2 + 1, max acc2 (x.deep + 1), by go_num, by go_num, by omega, HQ2.out, by omega, (HB2.out.alloc HB2.out.size _).trans (HB3.out.mono (by have := HB2.out.size; simp; omega))⟩
                case measure => simp [intOf]; omega
              · have hk' : k2 = m.args.length := by omega
                have hacc : acc2 = 1 + NX := by have := Hq2.out; rw [hk', List.drop_length] at this; simp only [Ex.deeps] at this; omega
                subst hacc
                clear hk'
                have hq3 := HQ'.out
                rw [← HNX.out] at hq3
                have HQ3 := Lib.hid hq3
                clear hq3
                go_wp2
                go_roundw
                case rel => exact ⟨k + 1, max acc (1 + NX), by go_num, by go_num, by omega, HQ3.out, HB12.out.trans (HB2.out.mono HB12.out.size)⟩
                case measure => simp [intOf]; omega
          · have hk' : k = fmems.length := by omega
            have hacc : acc = max DA DM := by have := Hq.out; rw [hk', List.drop_length] at this; simpa [Mm.deeps] using this
            subst hacc
            clear hk'
            go_wp2
            go_ret
            exact ⟨by go_num, HBw.out _ HB.out⟩
end Go.Proofs.Ythgbldkcgfggfaa
