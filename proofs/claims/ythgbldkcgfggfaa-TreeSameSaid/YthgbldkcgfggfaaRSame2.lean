/-
  trefoilref02.sames, Same.
-/
import Derived.Test.YthgbldkcgfggfaaRSame
import Derived.Test.YthgbldkcgfggfaaParts
namespace Go.Proofs.Ythgbldkcgfggfaa
open Go.RowKit

set_option maxRecDepth 100000 in
set_option maxHeartbeats 1000000 in
theorem rsames_of (f g : Nat) (IH0 : ∀ (x y : Ex) (w : World) (S1 S2 : Nat → Prop) (vx vy : Value) (r : Bool), x.size ≤ f → x.tsize ≤ g → (∀ k, S1 k → k < w.heap.size) → (∀ k, S2 k → k < w.heap.size) → ExV w S1 x vx → ExV w S2 y vy → (r = true ↔ x = y) →
      Calls Try.prog 22 #[vx, vy] w fun e w' => e = .returned (.bool r) ∧ Below w.heap.size w w')
    (l1 l2 : List Ex) (w : World) (S1 S2 : Nat → Prop) (A1 A2 : Option Addr) (c1 c2 : Nat) (r : Bool) (hf : Ex.sizes l1 ≤ f) (hg : Ex.tsizes l1 ≤ g) (hS1 : ∀ k, S1 k → k < w.heap.size) (hS2 : ∀ k, S2 k → k < w.heap.size)
    (h1 : ExsO w S1 l1 A1) (h2 : ExsO w S2 l2 A2) (hc1 : l1.length ≤ c1) (hm1 : c1 ≤ maxLen) (_hc2 : l2.length ≤ c2) (_hm2 : c2 ≤ maxLen) (hr : r = true ↔ l1 = l2) :
    Calls Try.prog 45 #[.slice A1 l1.length c1, .slice A2 l2.length c2] w fun e w' => e = .returned (.bool r) ∧ Below w.heap.size w w' := by
  unfold maxLen at hm1
  have IH := Lib.hid IH0
  have H1 := Lib.hid h1
  have H2 := Lib.hid h2
  have HR := Lib.hid hr
  have HF := Lib.hid hf
  have HG := Lib.hid hg
  clear h1 h2 hr IH0 hf hg
  by_cases hlen : l1.length = l2.length
  · have hne : ((l1.length : Int) != (l2.length : Int)) = false := by rw [bne_eq_false_iff_eq]; omega
    have HLen := Lib.hid hlen
    clear hlen
    go_enter Try.func45, Try.ntmps45
    go_wp2
    go_loopw [5, 13] (fun _ i wr => ∃ k : Nat, i = .int .i64 k ∧ k ≤ l1.length ∧ (r = true ↔ l1.drop k = l2.drop k) ∧ Below w.heap.size w wr) (fun _ i _ => l1.length - (intOf i).toNat)
    case atStart => exact ⟨0, rfl, Nat.zero_le _, by rw [List.drop_zero, List.drop_zero]; exact HR.out, Below.refl _ _⟩
    case round =>
      obtain ⟨k, rfl, hk, hq, hb⟩ := hrel
      have Hq := Lib.hid hq
      have HB := Lib.hid hb
      clear hq hb
      by_cases hlt : k < l1.length
      · have hlt2 : k < l2.length := by rw [← HLen.out]; exact hlt
        obtain ⟨b1, o1, rfl, p1⟩ := ExsO.get _ _ (ExsO.keep (fun k hk => ⟨hk, HB.out.block k (hS1 k hk)⟩) _ _ H1.out) k hlt
        obtain ⟨b2, o2, rfl, p2⟩ := ExsO.get _ _ (ExsO.keep (fun k hk => ⟨hk, HB.out.block k (hS2 k hk)⟩) _ _ H2.out) k hlt2
        have hd := take_drop_eq l1 l2 k hlt hlt2
        have hsz : l1[k].size ≤ f := Nat.le_trans (sizes_get l1 k hlt) HF.out
        have hszt : l1[k].tsize ≤ g := Nat.le_trans (tsizes_get l1 k hlt) HG.out
        obtain ⟨s, hs⟩ : ∃ s, s = l1[k] := ⟨_, rfl⟩
        obtain ⟨t, ht⟩ : ∃ t, t = l2[k] := ⟨_, rfl⟩
        rw [← hs] at p1 hd hsz hszt
        rw [← ht] at p2 hd
        obtain ⟨xA, yA, xN, yN, xT, yT, xM, yM, f0, f1, f2, f3, f4, f5, f6, hv, _⟩ := p1.val
        obtain ⟨zA, tA, zN, tN, zT, tT, zM, tM, g0, g1, g2, g3, g4, g5, g6, hu, _⟩ := p2.val
        have HV := Lib.hid hv
        have HU := Lib.hid hu
        have HD := Lib.hid hd
        clear hs ht p1 p2 hv hu hd
        obtain ⟨q, hq⟩ : ∃ q : Bool, (q = true ↔ s = t) := by
          by_cases h : s = t
          · exact ⟨true, by simp [h]⟩
          · exact ⟨false, by simp [h]⟩
        have HQ := Lib.hid hq
        clear hq
        have hz1 : ∀ k, S1 k → k < wr.heap.size := fun k hk => Nat.lt_of_lt_of_le (hS1 k hk) HB.out.size
        have hz2 : ∀ k, S2 k → k < wr.heap.size := fun k hk => Nat.lt_of_lt_of_le (hS2 k hk) HB.out.size
        have hih : ∀ W, BelC wr W → Calls Try.prog 22 #[.agg #[.int .i64 s.kind, .string s.str, .int .i64 s.num, .slice xA s.args.length yA, .slice xN s.names.length yN, .slice xT s.types.length yT, .slice xM s.mems.length yM], .agg #[.int .i64 t.kind, .string t.str, .int .i64 t.num, .slice zA t.args.length tA, .slice zN t.names.length tN, .slice zT t.types.length tT, .slice zM t.mems.length tM]] W fun e w' => e = .returned (.bool q) ∧ BelC wr w' := fun W hW =>
          (IH.out s t W S1 S2 _ _ q hsz hszt (fun k hk => Nat.lt_of_lt_of_le (hz1 k hk) (Below.size hW)) (fun k hk => Nat.lt_of_lt_of_le (hz2 k hk) (Below.size hW)) (ExV.keep (fun k hk => ⟨hk, Below.block hW k (hz1 k hk)⟩) _ _ HV.out) (ExV.keep (fun k hk => ⟨hk, Below.block hW k (hz2 k hk)⟩) _ _ HU.out) HQ.out).mono fun _ _ h => ⟨h.1, Below.trans hW (h.2.mono (Below.size hW))⟩
        have HIH := Lib.hid hih
        clear hih
        have hcell : ∀ W, BelC wr W → W.cell? ⟨b1, o1 + k * 7, none⟩ = some (.int .i64 s.kind) ∧ W.cell? ⟨b1, o1 + k * 7 + 1, none⟩ = some (.string s.str) ∧ W.cell? ⟨b1, o1 + k * 7 + 2, none⟩ = some (.int .i64 s.num) ∧ W.cell? ⟨b1, o1 + k * 7 + 3, none⟩ = some (.slice xA s.args.length yA) ∧ W.cell? ⟨b1, o1 + k * 7 + 4, none⟩ = some (.slice xN s.names.length yN) ∧ W.cell? ⟨b1, o1 + k * 7 + 5, none⟩ = some (.slice xT s.types.length yT) ∧ W.cell? ⟨b1, o1 + k * 7 + 6, none⟩ = some (.slice xM s.mems.length yM) ∧ W.cell? ⟨b2, o2 + k * 7, none⟩ = some (.int .i64 t.kind) ∧ W.cell? ⟨b2, o2 + k * 7 + 1, none⟩ = some (.string t.str) ∧ W.cell? ⟨b2, o2 + k * 7 + 2, none⟩ = some (.int .i64 t.num) ∧ W.cell? ⟨b2, o2 + k * 7 + 3, none⟩ = some (.slice zA t.args.length tA) ∧ W.cell? ⟨b2, o2 + k * 7 + 4, none⟩ = some (.slice zN t.names.length tN) ∧ W.cell? ⟨b2, o2 + k * 7 + 5, none⟩ = some (.slice zT t.types.length tT) ∧ W.cell? ⟨b2, o2 + k * 7 + 6, none⟩ = some (.slice zM t.mems.length tM) := fun W hW => ⟨hW.old f0, hW.old f1, hW.old f2, hW.old f3, hW.old f4, hW.old f5, hW.old f6, hW.old g0, hW.old g1, hW.old g2, hW.old g3, hW.old g4, hW.old g5, hW.old g6⟩
        have HC := Lib.hid hcell
        have hx0 := HC.out wr (BelC.refl _)
        clear hcell
        go_wp2
        go_region_held3 (fun W => W.cell? ⟨b1, o1 + k * 7, none⟩ = some (.int .i64 s.kind) ∧ W.cell? ⟨b1, o1 + k * 7 + 1, none⟩ = some (.string s.str) ∧ W.cell? ⟨b1, o1 + k * 7 + 2, none⟩ = some (.int .i64 s.num) ∧ W.cell? ⟨b1, o1 + k * 7 + 3, none⟩ = some (.slice xA s.args.length yA) ∧ W.cell? ⟨b1, o1 + k * 7 + 4, none⟩ = some (.slice xN s.names.length yN) ∧ W.cell? ⟨b1, o1 + k * 7 + 5, none⟩ = some (.slice xT s.types.length yT) ∧ W.cell? ⟨b1, o1 + k * 7 + 6, none⟩ = some (.slice xM s.mems.length yM) ∧ W.cell? ⟨b2, o2 + k * 7, none⟩ = some (.int .i64 t.kind) ∧ W.cell? ⟨b2, o2 + k * 7 + 1, none⟩ = some (.string t.str) ∧ W.cell? ⟨b2, o2 + k * 7 + 2, none⟩ = some (.int .i64 t.num) ∧ W.cell? ⟨b2, o2 + k * 7 + 3, none⟩ = some (.slice zA t.args.length tA) ∧ W.cell? ⟨b2, o2 + k * 7 + 4, none⟩ = some (.slice zN t.names.length tN) ∧ W.cell? ⟨b2, o2 + k * 7 + 5, none⟩ = some (.slice zT t.types.length tT) ∧ W.cell? ⟨b2, o2 + k * 7 + 6, none⟩ = some (.slice zM t.mems.length tM))
          (first | exact hx0 | (refine HC.out _ ?_; (· repeat (first | assumption | exact BelC.refl _ | refine BelC.alloc ?_ _ | refine BelC.drew ?_))))
          (first | (go_at_call 22; with_reducible refine (HIH.out _ ?_).mono ?_; (· repeat (first | assumption | exact BelC.refl _ | refine BelC.alloc ?_ _ | refine BelC.drew ?_)); rintro e w' ⟨rfl, hb2⟩; have HB2 := Lib.hid hb2; clear hb2))
        cases q with
        | true =>
          have hst : s = t := HQ.out.1 rfl
          go_wp2
          go_roundw
          case rel => exact ⟨k + 1, by go_num, by omega, ⟨fun h => (HD.out.1 (Hq.out.1 h)).2, fun h => Hq.out.2 (HD.out.2 ⟨hst, h⟩)⟩, HB.out.trans (Below.mono HB2.out HB.out.size)⟩
          case measure => simp [intOf]; omega
        | false =>
          have hrr : r = false := by
            cases r with
            | false => rfl
            | true => exact absurd (HQ.out.2 (HD.out.1 (Hq.out.1 rfl)).1) (by simp)
          subst hrr
          go_wp2
          go_ret
          exact ⟨rfl, HB.out.trans (Below.mono HB2.out HB.out.size)⟩
      · have hk' : k = l1.length := by omega
        have hrr : r = true := Hq.out.2 (by rw [hk', List.drop_length, HLen.out, List.drop_length])
        subst hrr
        clear hk'
        go_wp2
        go_ret
        exact ⟨rfl, HB.out⟩
  · have hne : ((l1.length : Int) != (l2.length : Int)) = true := by rw [bne_iff_ne]; omega
    have hrr : r = false := by
      cases r with
      | false => rfl
      | true => exact absurd (congrArg List.length (HR.out.1 rfl)) hlen
    subst hrr
    clear hlen
    go_enter Try.func45, Try.ntmps45
    go_wp2
    go_ret
    exact ⟨rfl, Below.refl _ _⟩

end Go.Proofs.Ythgbldkcgfggfaa
