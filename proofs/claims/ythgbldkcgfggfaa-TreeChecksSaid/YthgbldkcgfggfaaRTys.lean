/-
  trefoilref02.types.
-/
import Derived.Test.YthgbldkcgfggfaaRTys1
import Derived.Test.YthgbldkcgfggfaaRDeep
namespace Go.Proofs.Ythgbldkcgfggfaa
open Go.RowKit

set_option maxRecDepth 100000 in
set_option maxHeartbeats 4000000 in
theorem rtys_any : ∀ (f : Nat) (e0 : Ex) (w : World) (S : Nat → Prop) (ev : Value), e0.size ≤ f → e0.tsize ≤ 1000000 → (∀ k, S k → k < w.heap.size) → ExV w S e0 ev →
    Calls Try.prog 36 #[ev] w fun e w' => ∃ A c, e = .returned (.slice A e0.tys.length c) ∧ e0.tys.length ≤ c ∧ c ≤ maxLen ∧ TysO w' (fun k => S k ∨ w.heap.size ≤ k ∧ k < w'.heap.size) e0.tys A ∧ Below w.heap.size w w' := by
  intro f
  induction f with
  | zero => intro e0 w S ev h; cases e0; simp [Ex.size] at h
  | succ f ih =>
    intro e0 w S ev hf hN hS he
    have IH := Lib.hid ih
    clear ih
    obtain ⟨fk, fs, fn, fargs, fnames, ftypes, fmems⟩ := e0
    unfold ExV at he
    obtain ⟨aA, cA, aN, cN, aT, cT, aM, cM, rfl, hs, hA, hA9, hN1, hN9, hT, hT9, hM, hM9, oA, oN, oT, oM⟩ := he
    have HOA := Lib.hid oA
    have HOM := Lib.hid oM
    have hsum : 1 + Ex.sizes fargs + Mm.sizes fmems ≤ f + 1 := by simpa [Ex.size] using hf
    have htsum : Ty.sizes ftypes + Ex.tsizes fargs + Mm.tsizes fmems ≤ 1000000 := by simpa [Ex.tsize] using hN
    obtain ⟨tot, htot⟩ : ∃ l, l = (Ex.mk fk fs fn fargs fnames ftypes fmems).tys := ⟨_, rfl⟩
    have hlen : tot.length ≤ 1000000 := by
      have h1 := Ty.len_le tot
      have h2 := Ex.tys_size (.mk fk fs fn fargs fnames ftypes fmems)
      rw [← htot] at h2
      omega
    rw [← htot]
    have htl : ftypes.length ≤ 1000000 := by have h1 := Ty.len_le ftypes; omega
    have HSM := Lib.hid hsum
    have HTS := Lib.hid htsum
    have htot' : tot = ftypes ++ (Ex.tyss fargs ++ Mm.tyss fmems) := by rw [htot]; simp [Ex.tys]
    have HTot := Lib.hid htot'
    have HLen := Lib.hid hlen
    clear hf hN hsum htsum htot htot' hlen oA oN oM
    obtain ⟨i0, hi, hz0, hz1, hz2⟩ := info_parts infoTy
    obtain ⟨w1, hw1⟩ : ∃ w1, w1 = w.alloc (.cells #[.int .i64 fk, .string fs, .int .i64 fn, .slice aA fargs.length cA, .slice aN fnames.length cN, .slice aT ftypes.length cT, .slice aM fmems.length cM] 31) := ⟨_, rfl⟩
    have hsz1 : w1.heap.size = w.heap.size + 1 := by rw [hw1]; simp
    have hbw : ∀ W, Below w1.heap.size w1 W → Below w.heap.size w W := fun W hW => ((Below.refl _ w).alloc (Nat.le_refl _) _).trans (hw1 ▸ hW.mono (by omega))
    have hrow : ∀ W, Below w1.heap.size w1 W → ∀ j, W.cell? ⟨w.heap.size, j, none⟩ = (#[.int .i64 fk, .string fs, .int .i64 fn, .slice aA fargs.length cA, .slice aN fnames.length cN, .slice aT ftypes.length cT, .slice aM fmems.length cM] : Array Value)[j]? := fun W hW j =>
      cell_of_row W _ j _ _ _ ((hW.block _ (by omega)).trans (by rw [hw1]; exact heap_alloc_new w _))
    have hww : w.heap.size ≤ w1.heap.size := by omega
    have htr0 : TRow w w1 (w1.alloc (.cells #[] 42)) S (.slice (some ⟨w.heap.size + 1, 0, none⟩) 0 0) [] := by
      refine ⟨⟨⟨[], ?_, rfl⟩, fun k hk => hk.2, fun k hk => ?_⟩, ⟨_, rfl⟩, (Below.refl _ _).alloc (Nat.le_refl _) _⟩
      · have h0 := World.ownsRow_lit (base := w1.heap.size) (e := 42) (size := srtT.size) w1 #[] 0 (by simp) (Nat.zero_le _) (by simp)
        rw [hsz1] at h0 ⊢
        simpa using h0
      · rcases hk.1 with h3 | h3
        · have := hS k h3; simp; omega
        · exact h3.2
    have hlies0 : LiesAt srtT (w1.alloc (.cells #[] 42)) (fun k => (S k ∨ w.heap.size ≤ k ∧ k < (w1.alloc (.cells #[] 42)).heap.size) ∧ (Value.slice (some ⟨w.heap.size + 1, 0, none⟩) 0 0).ownBlock ≠ some k) ftypes aT := by
      refine lies_tys (TysO.keep (fun k hk => ⟨⟨.inl hk, fun e => ?_⟩, ?_⟩) _ _ oT)
      · have := hS k hk
        rw [heap_past _ _ _ (by omega), hw1, heap_past _ _ _ this]
      · have := hS k hk
        simp [Value.ownBlock] at e
        omega
    have HTR0 := Lib.hid (by rw [← hw1]; exact htr0 : TRow w w1 ((w.alloc (.cells #[.int .i64 fk, .string fs, .int .i64 fn, .slice aA fargs.length cA, .slice aN fnames.length cN, .slice aT ftypes.length cT, .slice aM fmems.length cM] 31)).alloc (.cells #[] 42)) S (.slice (some ⟨w.heap.size + 1, 0, none⟩) 0 0) [])
    have HLies0 := Lib.hid (by rw [← hw1]; exact hlies0 : LiesAt srtT ((w.alloc (.cells #[.int .i64 fk, .string fs, .int .i64 fn, .slice aA fargs.length cA, .slice aN fnames.length cN, .slice aT ftypes.length cT, .slice aM fmems.length cM] 31)).alloc (.cells #[] 42)) (fun k => (S k ∨ w.heap.size ≤ k ∧ k < ((w.alloc (.cells #[.int .i64 fk, .string fs, .int .i64 fn, .slice aA fargs.length cA, .slice aN fnames.length cN, .slice aT ftypes.length cT, .slice aM fmems.length cM] 31)).alloc (.cells #[] 42)).heap.size) ∧ (Value.slice (some ⟨w.heap.size + 1, 0, none⟩) 0 0).ownBlock ≠ some k) ftypes aT)
    have HRow := Lib.hid hrow
    have HBw := Lib.hid hbw
    clear htr0 hlies0 hrow hbw oT
    unfold maxLen at hA9 hM9 hT9
    go_enter Try.func36, Try.ntmps36
    go_wp2_with (at_builtin; go_loud (refine wpList_cat2 (T := srtT) (ms := ftypes) rfl (.tmp 10) (.tmp 12) 28 42 rfl i0 _ 80 Try.underlying28 hi hz0 hz1 hz2 rfl rfl HTR0.out.ne HTR0.out.row aT cT rfl HLies0.out ?_ (by decide) ?_ ?_; (· simpa using htl); (· simp; omega)); intro v6 w6 hrow6 hk6 hb6; have HTR := Lib.hid (HTR0.out.cat hww hS hrow6 hk6 hb6); have hrw6 := HRow.out w6 HTR.out.bel; obtain ⟨c0, c1, c2, c3, c4, c5, c6⟩ := (⟨hrw6 0, hrw6 1, hrw6 2, hrw6 3, hrw6 4, hrw6 5, hrw6 6⟩ : _ ∧ _ ∧ _ ∧ _ ∧ _ ∧ _ ∧ _); clear hrow6 hk6 hb6 hrw6)
    clear c0 c1 c2 c4 c5 c6 HLies0 HTR0
    go_loopw [3, 5, 17] (fun s _ i wr => ∃ (k : Nat) (es : List Ty), i = .int .i64 k ∧ k ≤ fargs.length ∧ es ++ (Ex.tyss (fargs.drop k) ++ Mm.tyss fmems) = tot ∧ TRow w w1 wr S s es) (fun _ _ i _ => fargs.length - (intOf i).toNat)
    case atStart => exact ⟨0, _, rfl, Nat.zero_le _, by rw [HTot.out, List.drop_zero, List.nil_append], HTR.out⟩
    case round =>
      clear HTR c3
      obtain ⟨k, es, rfl, hk, hq, htr⟩ := hrel
      have Hq := Lib.hid hq
      have HTR := Lib.hid htr
      have HB := Lib.hid htr.bel
      clear hq htr
      by_cases hlt : k < fargs.length
      · obtain ⟨bm, om, rfl, hmp⟩ := ExsO.get _ _ (ExsO.keep (fun k hk => ⟨hk, (HBw.out _ HB.out).block k (hS k hk)⟩) _ _ HOA.out) k hlt
        have hd := tyss_drop fargs k hlt
        have hsg := sizes_get fargs k hlt
        have hst := tsizes_get fargs k hlt
        obtain ⟨x, hx⟩ : ∃ m, m = fargs[k] := ⟨_, rfl⟩
        rw [← hx] at hmp hd hsg hst
        have hq : (es ++ x.tys) ++ (Ex.tyss (fargs.drop (k + 1)) ++ Mm.tyss fmems) = tot := by rw [← Hq.out, hd]; simp only [List.append_assoc]
        have hel : es.length + x.tys.length ≤ 1000000 := by
          have h1 := congrArg List.length hq
          have h2 := HLen.out
          simp only [List.length_append] at h1
          omega
        have hms : x.size ≤ f := by have := HSM.out; omega
        have hmt : x.tsize ≤ 1000000 := by have := HTS.out; omega
        have HQ' := Lib.hid hq
        obtain ⟨zA, tA, zN, tN, zT, tT, zM, tM, f0, f1, f2, f3, f4, f5, f6, hv, _⟩ := hmp.val
        have hSr : ∀ k, S k → k < wr.heap.size := fun k hk => Nat.lt_of_lt_of_le (hS k hk) (HBw.out _ HB.out).size
        have HV := Lib.hid hv
        clear hx hmp hv hq hd hsg hst
        go_wp2_with (first | (go_at_call 36; refine (IH.out x _ S _ hms hmt (fun k hk => by have := hSr k hk; simp; omega) (ExV.keep (fun k hk => ⟨hk, Below.heap_alloc _ _ _ (hSr k hk)⟩) _ _ HV.out)).mono ?_; rintro e w2 ⟨A2, d2, rfl, hl2, hm2, hty2, hb2⟩; have HTR2 := Lib.hid (HTR.out.later (W := w2) hww hS ((Below.alloc (Below.refl _ _) (Nat.le_refl _) _).trans (hb2.mono (by simp)))); have HLies2 := Lib.hid (HTR.out.lies hww hS (by simp) hty2); clear hty2 hl2 hm2 hb2) | (at_builtin; go_loud (refine wpList_cat2 (T := srtT) (ms := x.tys) rfl (.tmp 21) (.tmp 23) 28 42 rfl i0 _ 80 Try.underlying28 hi hz0 hz1 hz2 rfl rfl HTR2.out.ne HTR2.out.row A2 d2 rfl HLies2.out ?_ (by decide) ?_ ?_; (· exact hel); (· exact HTR2.out.bel.size)); intro v8 w8 hrow8 hk8 hb8; have HTR8 := Lib.hid (HTR2.out.cat hww hS hrow8 hk8 hb8); clear hrow8 hk8 hb8))
        go_roundw
        case rel => exact ⟨k + 1, es ++ x.tys, by go_num, by omega, HQ'.out, HTR8.out⟩
        case measure => simp [intOf]; omega
      · have hk' : k = fargs.length := by omega
        have hq0 : es ++ Mm.tyss fmems = tot := by have := Hq.out; rw [hk', List.drop_length] at this; simpa [Ex.tyss] using this
        have HQ0 := Lib.hid hq0
        clear hk' hq0
        have hrw := HRow.out wr HB.out
        obtain ⟨c0, c1, c2, c3, c4, c5, c6⟩ := (⟨hrw 0, hrw 1, hrw 2, hrw 3, hrw 4, hrw 5, hrw 6⟩ : _ ∧ _ ∧ _ ∧ _ ∧ _ ∧ _ ∧ _)
        clear hrw
        go_wp2
        clear c0 c1 c2 c3 c4 c5
        go_loopw [3, 7, 9, 29] (fun s _ _ i wr => ∃ (k : Nat) (es : List Ty), i = .int .i64 k ∧ k ≤ fmems.length ∧ es ++ Mm.tyss (fmems.drop k) = tot ∧ TRow w w1 wr S s es) (fun _ _ _ i _ => fmems.length - (intOf i).toNat)
        case atStart => exact ⟨0, es, rfl, Nat.zero_le _, by rw [List.drop_zero]; exact HQ0.out, HTR.out⟩
        case round =>
          clear HTR HB HQ0 Hq c6
          obtain ⟨k, es, rfl, hk, hq, htr⟩ := hrel
          have Hq := Lib.hid hq
          have HTR := Lib.hid htr
          have HB := Lib.hid htr.bel
          clear hq htr
          by_cases hlt : k < fmems.length
          · obtain ⟨bm, om, rfl, hmp⟩ := MmsO.get _ _ (MmsO.keep (fun k hk => ⟨hk, (HBw.out _ HB.out).block k (hS k hk)⟩) _ _ HOM.out) k hlt
            have hd := mtyss_drop fmems k hlt
            have hsg := msizes_get fmems k hlt
            have hst := mtsizes_get fmems k hlt
            obtain ⟨m, hm⟩ : ∃ m, m = fmems[k] := ⟨_, rfl⟩
            rw [← hm] at hmp hd hsg hst
            obtain ⟨rest, hrest⟩ : ∃ l, l = Mm.tyss (fmems.drop (k + 1)) := ⟨_, rfl⟩
            have hq : (es ++ m.types) ++ (Ex.tyss m.args ++ rest) = tot := by rw [← Hq.out, hd, Mm.tys_eq, hrest]; simp only [List.append_assoc]
            have hel : es.length + m.types.length ≤ 1000000 := by
              have h1 := congrArg List.length hq
              have h2 := HLen.out
              simp only [List.length_append] at h1
              omega
            have hms : Ex.sizes m.args ≤ f := by have := HSM.out; have := Mm.size_eq m; omega
            have hmt : Ex.tsizes m.args ≤ 1000000 := by have := HTS.out; have := Mm.tsize_eq m; omega
            have HQ' := Lib.hid hq
            have HRest := Lib.hid hrest
            obtain ⟨xA, yA, xT, yT, f0, f1, f2, f3, f4, hv⟩ := hmp.val
            have hSr : ∀ k, S k → k < wr.heap.size := fun k hk => Nat.lt_of_lt_of_le (hS k hk) (HBw.out _ HB.out).size
            have h5 := mm5 hv
            obtain ⟨hyA, hyA9, hyT, hyT9, hoA, hoT⟩ := h5
            have HMA := Lib.hid hoA
            have HTRa := Lib.hid (HTR.out.later (W := wr.alloc (.cells #[.int .i64 m.kind, .string m.name, .string m.as', .slice xA m.args.length yA, .slice xT m.types.length yT] 49)) hww hS (Below.alloc (Below.refl _ _) (Nat.le_refl _) _))
            have HLa := Lib.hid (HTR.out.lies (W := wr.alloc (.cells #[.int .i64 m.kind, .string m.name, .string m.as', .slice xA m.args.length yA, .slice xT m.types.length yT] 49)) (B := wr.heap.size) hww hS (Nat.le_refl _) (TysO.keep (fun k hk => ⟨.inl hk, heap_past _ _ _ (hSr k hk)⟩) _ _ hoT))
            unfold maxLen at hyA9 hyT9
            clear hm hmp hv hq hd hsg hst hoA hoT hrest
            go_wp2_with (at_builtin; go_loud (refine wpList_cat2 (T := srtT) (ms := m.types) rfl (.tmp 33) (.tmp 35) 28 42 rfl i0 _ 80 Try.underlying28 hi hz0 hz1 hz2 rfl rfl HTRa.out.ne HTRa.out.row xT yT rfl HLa.out ?_ (by decide) ?_ ?_; (· exact hel); (· exact HTRa.out.bel.size)); intro v8 w8 hrow8 hk8 hb8; have HTR8 := Lib.hid (HTRa.out.cat hww hS hrow8 hk8 hb8); have hx8 := (hk8.block wr.heap.size (by simp) (fun e => by have := (HTR.out.row.block e).2; omega)).trans (heap_at _ _ _ rfl); obtain ⟨d3, d4⟩ := (⟨blk_cell hx8 3, blk_cell hx8 4⟩ : _ ∧ _); clear hrow8 hk8 hb8 hx8)
            have HB8 := Lib.hid HTR8.out.bel
            clear d3 d4
            go_loopw [3, 9, 40] (fun s _ i wi => ∃ (k2 : Nat) (es2 : List Ty), i = .int .i64 k2 ∧ k2 ≤ m.args.length ∧ es2 ++ (Ex.tyss (m.args.drop k2) ++ rest) = tot ∧ TRow w w1 wi S s es2) (fun _ _ i _ => m.args.length - (intOf i).toNat)
            case atStart => exact ⟨0, _, rfl, Nat.zero_le _, by rw [List.drop_zero]; exact HQ'.out, HTR8.out⟩
            case round =>
              obtain ⟨wO, hwO⟩ : ∃ wO, wO = wr := ⟨_, rfl⟩
              obtain ⟨k2, es2, rfl, hk2, hq2, htr2⟩ := hrel
              have Hq2 := Lib.hid hq2
              have HTRi := Lib.hid htr2
              have HBi := Lib.hid htr2.bel
              clear hq2 htr2 hwO
              by_cases hlt2 : k2 < m.args.length
              · obtain ⟨b2, o2, rfl, hp2⟩ := ExsO.get _ _ (ExsO.keep (fun k hk => ⟨hk, ((HBw.out _ HBi.out).block k (hS k hk)).trans ((HBw.out _ HB.out).block k (hS k hk)).symm⟩) _ _ HMA.out) k2 hlt2
                have hd := tyss_drop m.args k2 hlt2
                have hsg := sizes_get m.args k2 hlt2
                have hst := tsizes_get m.args k2 hlt2
                obtain ⟨x, hx⟩ : ∃ y, y = m.args[k2] := ⟨_, rfl⟩
                rw [← hx] at hp2 hd hsg hst
                have hq : (es2 ++ x.tys) ++ (Ex.tyss (m.args.drop (k2 + 1)) ++ rest) = tot := by rw [← Hq2.out, hd]; simp only [List.append_assoc]
                have hel2 : es2.length + x.tys.length ≤ 1000000 := by
                  have h1 := congrArg List.length hq
                  have h2 := HLen.out
                  simp only [List.length_append] at h1
                  omega
                have hxs : x.size ≤ f := by omega
                have hxt : x.tsize ≤ 1000000 := by omega
                have HQ2 := Lib.hid hq
                obtain ⟨zA, tA, zN, tN, zT, tT, zM, tM, r0, r1, r2, r3, r4, r5, r6, hv, _⟩ := hp2.val
                have hSr2 : ∀ k, S k → k < wr.heap.size := fun k hk => Nat.lt_of_lt_of_le (hS k hk) (HBw.out _ HBi.out).size
                have HV2 := Lib.hid hv
                clear hx hp2 hv hq hd hsg hst
                go_wp2_with (first | (go_at_call 36; refine (IH.out x _ S _ hxs hxt (fun k hk => by have := hSr2 k hk; simp; omega) (ExV.keep (fun k hk => ⟨hk, Below.heap_alloc _ _ _ (hSr2 k hk)⟩) _ _ HV2.out)).mono ?_; rintro e w2 ⟨A2, d2, rfl, hl2, hm2, hty2, hb2⟩; have HTR2 := Lib.hid (HTRi.out.later (W := w2) hww hS ((Below.alloc (Below.refl _ _) (Nat.le_refl _) _).trans (hb2.mono (by simp)))); have HLies2 := Lib.hid (HTRi.out.lies hww hS (by simp) hty2); clear hty2 hl2 hm2 hb2) | (at_builtin; go_loud (refine wpList_cat2 (T := srtT) (ms := x.tys) rfl (.tmp 44) (.tmp 46) 28 42 rfl i0 _ 80 Try.underlying28 hi hz0 hz1 hz2 rfl rfl HTR2.out.ne HTR2.out.row A2 d2 rfl HLies2.out ?_ (by decide) ?_ ?_; (· exact hel2); (· exact HTR2.out.bel.size)); intro v9 w9 hrow9 hk9 hb9; have HTR9 := Lib.hid (HTR2.out.cat hww hS hrow9 hk9 hb9); clear hrow9 hk9 hb9))
                go_roundw
                case rel => exact ⟨k2 + 1, es2 ++ x.tys, by go_num, by omega, HQ2.out, HTR9.out⟩
                case measure => simp [intOf]; omega
              · have hk' : k2 = m.args.length := by omega
                have hq0 : es2 ++ rest = tot := by have := Hq2.out; rw [hk', List.drop_length] at this; simpa [Ex.tyss] using this
                rw [HRest.out] at hq0
                have HQ0 := Lib.hid hq0
                clear hk' hq0
                go_wp2
                go_roundw
                case rel => exact ⟨k + 1, es2, by go_num, by omega, HQ0.out, HTRi.out⟩
                case measure => simp [intOf]; omega
          · have hk' : k = fmems.length := by omega
            have hq0 : es = tot := by have := Hq.out; rw [hk', List.drop_length] at this; simpa [Mm.tyss] using this
            subst hq0
            clear hk'
            obtain ⟨A9, c9, rfl, g1, g2, g3⟩ := HTR.out.out hww
            go_wp2
            go_ret
            exact ⟨A9, c9, rfl, g1, g2, g3, HBw.out _ HB.out⟩
end Go.Proofs.Ythgbldkcgfggfaa
