/-
  trefoilref02.Check.
-/
import Derived.Test.YthgbldkcgfggfaaRMay
import Derived.Test.YthgbldkcgfggfaaRTys
namespace Go.Proofs.Ythgbldkcgfggfaa
open Go.RowKit

theorem code_of (e : Ex) (h : e.all okNode = true) : checkCode e = if e.tall tyOk = false then 2 else if 200 < max e.deep e.tdeep then 4 else 0 := by
  unfold checkCode
  rw [h]
  cases e.tall tyOk with
  | false => simp
  | true =>
    simp only [Bool.true_eq_false, if_false]
    by_cases h2 : 200 < e.tdeep
    · rw [if_pos h2, if_pos (by omega)]
    · rw [if_neg h2]
      by_cases h3 : 200 < e.deep
      · rw [if_pos h3, if_pos (by omega)]
      · rw [if_neg h3, if_neg (by omega)]

set_option maxRecDepth 100000 in
set_option maxHeartbeats 4000000 in
theorem rcheck_any (e0 : Ex) (w : World) (S : Nat → Prop) (ev : Value) (hN : e0.size ≤ 1000000) (hNT : e0.tsize ≤ 1000000) (hS : ∀ k, S k → k < w.heap.size) (he : ExV w S e0 ev) :
    Calls Try.prog 13 #[ev] w fun e w' => e = .returned (.int .i64 (checkCode e0)) ∧ Below w.heap.size w w' := by
  obtain ⟨q, hq⟩ : ∃ q, e0.all okNode = q := ⟨_, rfl⟩
  obtain ⟨fk, fs, fn, aA, nA, cA, aN, nN, cN, aT, nT, cT, aM, nM, cM, rfl⟩ := he.form
  obtain ⟨w1, hw1⟩ : ∃ w1, w1 = w.alloc (.cells #[.int .i64 fk, .string fs, .int .i64 fn, .slice aA nA cA, .slice aN nN cN, .slice aT nT cT, .slice aM nM cM] 31) := ⟨_, rfl⟩
  have hsz1 : w1.heap.size = w.heap.size + 1 := by rw [hw1]; simp
  have hbw : ∀ W, Below w1.heap.size w1 W → Below w.heap.size w W := fun W hW => ((Below.refl _ w).alloc (Nat.le_refl _) _).trans (hw1 ▸ hW.mono (by omega))
  have hrow : ∀ W, Below w1.heap.size w1 W → ∀ j, W.cell? ⟨w.heap.size, j, none⟩ = (#[.int .i64 fk, .string fs, .int .i64 fn, .slice aA nA cA, .slice aN nN cN, .slice aT nT cT, .slice aM nM cM] : Array Value)[j]? := fun W hW j =>
    cell_of_row W _ j _ _ _ ((hW.block _ (by omega)).trans (by rw [hw1]; exact heap_alloc_new w _))
  have hlt : ∀ W, Below w1.heap.size w1 W → ∀ k, S k → k < W.heap.size := fun W hW k hk => Nat.lt_of_lt_of_le (hS k hk) (hbw W hW).size
  have hkp : ∀ W, Below w1.heap.size w1 W → ExV W S e0 (.agg #[.int .i64 fk, .string fs, .int .i64 fn, .slice aA nA cA, .slice aN nN cN, .slice aT nT cT, .slice aM nM cM]) := fun W hW => ExV.keep (fun k hk => ⟨hk, (hbw W hW).block k (hS k hk)⟩) _ _ he
  have H1 : Hid (∀ W, Below w1.heap.size w1 W → Calls Try.prog 35 #[.agg #[.int .i64 fk, .string fs, .int .i64 fn, .slice aA nA cA, .slice aN nN cN, .slice aT nT cT, .slice aM nM cM]] W fun e w' => e = .returned (.bool q) ∧ Below w1.heap.size w1 w') := Lib.hid fun W hW =>
    (rmay_any e0.size e0 W S _ q (Nat.le_refl _) (hlt W hW) (hkp W hW) hq).mono fun _ _ h => ⟨h.1, hW.trans (h.2.mono hW.size)⟩
  have H2 : Hid (∀ W, Below w1.heap.size w1 W → Calls Try.prog 17 #[.agg #[.int .i64 fk, .string fs, .int .i64 fn, .slice aA nA cA, .slice aN nN cN, .slice aT nT cT, .slice aM nM cM]] W fun e w' => e = .returned (.int .i64 e0.deep) ∧ Below w1.heap.size w1 w') := Lib.hid fun W hW =>
    (rdeep_any 1000000 e0 W S _ hN (Nat.le_refl _) (hlt W hW) (hkp W hW)).mono fun _ _ h => ⟨h.1, hW.trans (h.2.mono hW.size)⟩
  have H3 : Hid (∀ W, Below w1.heap.size w1 W → Calls Try.prog 36 #[.agg #[.int .i64 fk, .string fs, .int .i64 fn, .slice aA nA cA, .slice aN nN cN, .slice aT nT cT, .slice aM nM cM]] W fun e w' => ∃ A c, e = .returned (.slice A e0.tys.length c) ∧ e0.tys.length ≤ c ∧ c ≤ maxLen ∧ TysO w' (fun k => k < w'.heap.size) e0.tys A ∧ Below w1.heap.size w1 w') := Lib.hid fun W hW =>
    (rtys_any e0.size e0 W S _ (Nat.le_refl _) hNT (hlt W hW) (hkp W hW)).mono fun _ w' h => by
      obtain ⟨A, c, h1, h2, h3, h4, h5⟩ := h
      exact ⟨A, c, h1, h2, h3, TysO.keep (fun k hk => ⟨by rcases hk with h | h; exact Nat.lt_of_lt_of_le (hlt W hW k h) h5.size; exact h.2, rfl⟩) _ _ h4, hW.trans (h5.mono hW.size)⟩
  have hcf : q = false → checkCode e0 = 2 := fun h => by unfold checkCode; rw [hq, h]; simp
  have hct : q = true → checkCode e0 = if e0.tall tyOk = false then 2 else if 200 < max e0.deep e0.tdeep then 4 else 0 := fun h => code_of e0 (hq.trans h)
  have hde := Ex.deep_le e0
  have htd := Ex.tys_deep e0
  have hts := Ex.tys_size e0
  have hta := Ex.tys_all tyOk e0
  have hdl := Ty.deeps_le e0.tys
  obtain ⟨L, hL⟩ : ∃ l, l = e0.tys := ⟨_, rfl⟩
  obtain ⟨D, hD⟩ : ∃ d, d = e0.deep := ⟨_, rfl⟩
  rw [← hL] at htd hts hta hdl H3
  rw [← hD] at hde hct H2
  rw [← htd, ← hta] at hct
  obtain ⟨code, hcode⟩ : ∃ c, c = checkCode e0 := ⟨_, rfl⟩
  rw [← hcode] at hcf hct ⊢
  have hD9 : D ≤ 1000000 := by omega
  have hT9 : Ty.sizes L ≤ 1000000 := by omega
  have hlen : L.length ≤ 1000000 := Nat.le_trans (Ty.len_le L) hT9
  have HBw := Lib.hid hbw
  have HRow := Lib.hid hrow
  have HCT := Lib.hid hct
  clear hq he hbw hrow hlt hkp hde htd hts hta hL hD hcode hsz1 hS hct
  cases q with
  | false =>
    have hc2 : code = 2 := hcf rfl
    subst hc2
    clear hcf
    go_enter Try.func13, Try.ntmps13
    go_wp2_with fail
    rw [← hw1]
    clear hw1
    refine (H1.out _ (Below.refl _ _)).mono ?_
    rintro e w2 ⟨rfl, hb2⟩
    have HB2 := Lib.hid hb2
    clear hb2
    go_wp2
    go_ret
    exact ⟨rfl, HBw.out _ HB2.out⟩
  | true =>
    have hcode := HCT.out rfl
    have HCode := Lib.hid hcode
    clear hcf hcode HCT
    go_enter Try.func13, Try.ntmps13
    go_wp2_with fail
    rw [← hw1]
    clear hw1
    refine (H1.out _ (Below.refl _ _)).mono ?_
    rintro e w2 ⟨rfl, hb2⟩
    obtain ⟨c0, c1, c2, c3, c4, c5, c6⟩ := (⟨HRow.out w2 hb2 0, HRow.out w2 hb2 1, HRow.out w2 hb2 2, HRow.out w2 hb2 3, HRow.out w2 hb2 4, HRow.out w2 hb2 5, HRow.out w2 hb2 6⟩ : _ ∧ _ ∧ _ ∧ _ ∧ _ ∧ _ ∧ _)
    have HB2 := Lib.hid hb2
    clear hb2
    go_wp2_with fail
    refine (H2.out _ HB2.out).mono ?_
    rintro e w3 ⟨rfl, hb3⟩
    clear c0 c1 c2 c3 c4 c5 c6
    obtain ⟨c0, c1, c2, c3, c4, c5, c6⟩ := (⟨HRow.out w3 hb3 0, HRow.out w3 hb3 1, HRow.out w3 hb3 2, HRow.out w3 hb3 3, HRow.out w3 hb3 4, HRow.out w3 hb3 5, HRow.out w3 hb3 6⟩ : _ ∧ _ ∧ _ ∧ _ ∧ _ ∧ _ ∧ _)
    have HB3 := Lib.hid hb3
    clear hb3
    go_wp2_with fail
    refine (H3.out _ HB3.out).mono ?_
    rintro e w4 ⟨A4, c4', rfl, hl4, hm4, hty4, hb4⟩
    have HTy := Lib.hid hty4
    have HB4 := Lib.hid hb4
    have hm49 : c4' ≤ 2 ^ 63 - 1 := hm4
    clear c0 c1 c2 c3 c4 c5 c6 hty4 hb4
    go_wp2_with fail
    obtain ⟨TA, hTA⟩ : ∃ b, b = Ty.alls tyOk L := ⟨_, rfl⟩
    obtain ⟨DM, hDM⟩ : ∃ n, n = max D (Ty.deeps L) := ⟨_, rfl⟩
    have hDM9 : DM ≤ 1000000 := by omega
    have hcode := HCode.out
    rw [← hTA, ← hDM] at hcode
    clear HCode
    have HCode := Lib.hid hcode
    have HTA := Lib.hid hTA
    have HDM := Lib.hid hDM
    clear hcode hTA hDM hdl
    go_loopw [3, 5, 14] (fun s _ i wr => ∃ k acc : Nat, s = .int .i64 acc ∧ i = .int .i64 k ∧ k ≤ L.length ∧ max acc (Ty.deeps (L.drop k)) = DM ∧ Ty.alls tyOk (L.drop k) = TA ∧ Below w4.heap.size w4 wr) (fun _ _ i _ => L.length - (intOf i).toNat)
    case atStart => exact ⟨0, D, rfl, rfl, Nat.zero_le _, by rw [HDM.out, List.drop_zero], by rw [HTA.out, List.drop_zero], Below.refl _ _⟩
    case round =>
      obtain ⟨k, acc, rfl, rfl, hk, hq, hqa, hb⟩ := hrel
      have Hq := Lib.hid hq
      have Hqa := Lib.hid hqa
      have HB := Lib.hid hb
      have HBW := Lib.hid (HB4.out.trans (hb.mono HB4.out.size) : Below w1.heap.size w1 wr)
      clear hq hqa hb
      by_cases hlt : k < L.length
      · obtain ⟨bm, om, rfl, hmp⟩ := TysO.get _ _ (TysO.keep (S' := fun k => k < w4.heap.size) (fun k hk => ⟨hk, HB.out.block k hk⟩) _ _ HTy.out) k hlt
        have hd : Ty.deeps (L.drop k) = max L[k].deep (Ty.deeps (L.drop (k + 1))) := by rw [List.drop_eq_getElem_cons hlt]; simp [Ty.deeps]
        have hda := talls_drop L k hlt
        have hsg := Ty.szget L k hlt
        obtain ⟨t, ht⟩ : ∃ m, m = L[k] := ⟨_, rfl⟩
        rw [← ht] at hmp hd hda hsg
        have hq := Hq.out
        have hqa := Hqa.out
        rw [hda] at hqa
        have hts : t.size ≤ 1000000 := by omega
        have hacc : acc ≤ 1000000 := by omega
        have htd : t.deep ≤ 1000000 := by have := Ty.deep_le t; omega
        have hq' : max (max acc t.deep) (Ty.deeps (L.drop (k + 1))) = DM := by omega
        have HQ' := Lib.hid hq'
        obtain ⟨xA, yA, xL, yL, f0, f1, f2, f3, f4, hv⟩ := hmp.val
        have hSr : ∀ k, k < w4.heap.size → k < wr.heap.size := fun k hk => Nat.lt_of_lt_of_le hk HB.out.size
        obtain ⟨wM, hwM⟩ : ∃ wM, wM = wr.alloc (.cells #[.int .i64 t.kind, .string t.str, .slice xA t.args.length yA, .slice xL t.labels.length yL, .bool t.op] 42) := ⟨_, rfl⟩
        have hzM : wM.heap.size = wr.heap.size + 1 := by rw [hwM]; simp
        have hbM : Below wr.heap.size wr wM := by rw [hwM]; exact (Below.refl _ _).alloc (Nat.le_refl _) _
        have hrow : ∀ W, Below wM.heap.size wM W → ∀ j, W.cell? ⟨wr.heap.size, j, none⟩ = (#[.int .i64 t.kind, .string t.str, .slice xA t.args.length yA, .slice xL t.labels.length yL, .bool t.op] : Array Value)[j]? := fun W hW j =>
          cell_of_row W _ j _ _ _ ((hW.block _ (by omega)).trans (by rw [hwM]; exact heap_alloc_new _ _))
        have hbW : ∀ W, Below wM.heap.size wM W → Below wr.heap.size wr W := fun W hW => hbM.trans (hW.mono (by omega))
        have HRowM := Lib.hid hrow
        have HBM := Lib.hid hbW
        have HV := Lib.hid (fun W (hW : Below wM.heap.size wM W) => (TyV.keep (fun k hk => ⟨hk, (hbW W hW).block k (hSr k hk)⟩) _ _ hv : TyV W (fun k => k < w4.heap.size) t (.agg #[.int .i64 t.kind, .string t.str, .slice xA t.args.length yA, .slice xL t.labels.length yL, .bool t.op])))
        have HLt := Lib.hid (fun W (hW : Below wM.heap.size wM W) k (hk : k < w4.heap.size) => (Nat.lt_of_lt_of_le (hSr k hk) (hbW W hW).size : k < W.heap.size))
        clear ht hmp hv hq hq' hd hda hsg hrow hbW hbM hzM
        rcases hc : t.all tyOk with _ | _
        · have hTA : TA = false := by rw [← hqa, hc]; simp
          have hc2 : code = 2 := by rw [HCode.out, hTA]; simp
          subst hc2
          have HC := Lib.hid hc
          clear hc hqa hTA
          go_wp2_with fail
          rw [← hwM]
          clear hwM
          refine (rmayT_any t.size t wM _ _ false (Nat.le_refl _) (HLt.out _ (Below.refl _ _)) (HV.out _ (Below.refl _ _)) HC.out).mono ?_
          rintro e w5 ⟨rfl, hb5⟩
          have HB5 := Lib.hid hb5
          clear hb5
          go_wp2
          go_ret
          exact ⟨rfl, HBw.out _ (HBW.out.trans ((HBM.out _ HB5.out).mono HBW.out.size))⟩
        · rw [hc, Bool.true_and] at hqa
          have HC := Lib.hid hc
          have HQa := Lib.hid hqa
          clear hc hqa
          go_wp2_with fail
          rw [← hwM]
          clear hwM
          refine (rmayT_any t.size t wM _ _ true (Nat.le_refl _) (HLt.out _ (Below.refl _ _)) (HV.out _ (Below.refl _ _)) HC.out).mono ?_
          rintro e w5 ⟨rfl, hb5⟩
          obtain ⟨d0, d1, d2, d3, d4⟩ := (⟨HRowM.out w5 hb5 0, HRowM.out w5 hb5 1, HRowM.out w5 hb5 2, HRowM.out w5 hb5 3, HRowM.out w5 hb5 4⟩ : _ ∧ _ ∧ _ ∧ _ ∧ _)
          have HB5 := Lib.hid hb5
          clear hb5
          go_wp2_with (go_at_call 38; refine (rdeepT_any 1000000 t w5 _ _ hts (Nat.le_refl _) (HLt.out _ HB5.out) (HV.out _ HB5.out)).mono ?_; rintro e w6 ⟨rfl, hb6⟩; have HB6 := Lib.hid hb6; clear hb6)
          go_roundw
          case rel => exact ⟨k + 1, max acc t.deep, by go_num, by go_num, by omega, HQ'.out, HQa.out, HB.out.trans ((HBM.out _ (HB5.out.trans (HB6.out.mono HB5.out.size))).mono HB.out.size)⟩
          case measure => simp [intOf]; omega
      · have hk' : k = L.length := by omega
        have hTA : TA = true := by rw [← Hqa.out, hk', List.drop_length]; rfl
        have hacc : acc = DM := by have := Hq.out; rw [hk', List.drop_length] at this; simpa [Ty.deeps] using this
        have hcode := HCode.out
        rw [hTA, ← hacc] at hcode
        simp only [Bool.true_eq_false, if_false] at hcode
        have hacc9 : acc ≤ 1000000 := by omega
        clear hk' hTA hacc HCode HDM hDM9
        by_cases h : 200 < acc
        · rw [if_pos h] at hcode
          subst hcode
          have h' : (200 : Int) < acc := by omega
          go_wp2
          go_ret
          exact ⟨rfl, HBw.out _ HBW.out⟩
        · rw [if_neg h] at hcode
          subst hcode
          have h' : ¬ (200 : Int) < acc := by omega
          go_wp2
          go_ret
          exact ⟨rfl, HBw.out _ HBW.out⟩
end Go.Proofs.Ythgbldkcgfggfaa
