/-
  trefoilref02.names, SameType, sameTypes, Same, sames.
-/
import Derived.Test.YthgbldkcgfggfaaSame5
namespace Go.Proofs.Ythgbldkcgfggfaa
open Go.RowKit

set_option maxHeartbeats 400000 in
theorem names_r (w : World) (S1 S2 : Nat → Prop) (l1 l2 : List ByteArray) (A1 A2 : Option Addr) (c1 c2 : Nat) (r : Bool) (h1 : StrsO w S1 l1 A1) (h2 : StrsO w S2 l2 A2) (hc1 : l1.length ≤ c1) (hm1 : c1 ≤ maxLen) (_hc2 : l2.length ≤ c2) (_hm2 : c2 ≤ maxLen) (hr : decide (l1 = l2) = r) :
    Calls Try.prog 43 #[.slice A1 l1.length c1, .slice A2 l2.length c2] w fun e w' => e = .returned (.bool r) ∧ ∃ n, w' = w.drewN n := by
  unfold maxLen at hm1
  have H1 := Lib.hid h1
  have H2 := Lib.hid h2
  have HR := Lib.hid hr
  clear h1 h2 hr
  by_cases hlen : l1.length = l2.length
  · have hne : ((l1.length : Int) != (l2.length : Int)) = false := by rw [bne_eq_false_iff_eq]; omega
    have HLen := Lib.hid hlen
    clear hlen
    go_enter Try.func43, Try.ntmps43
    go_wp2
    go_loopw [5, 13] (fun _ i wr => ∃ k n : Nat, i = .int .i64 k ∧ k ≤ l1.length ∧ decide (l1.drop k = l2.drop k) = r ∧ wr = w.drewN n) (fun _ i _ => l1.length - (intOf i).toNat)
    case atStart => exact ⟨0, 0, rfl, Nat.zero_le _, by simpa using HR.out, rfl⟩
    case round =>
      obtain ⟨k, n, rfl, hk, hq, rfl⟩ := hrel
      have Hq := Lib.hid hq
      clear hq
      by_cases hlt : k < l1.length
      · have hlt2 : k < l2.length := by rw [← HLen.out]; exact hlt
        obtain ⟨b1, o1, rfl, _, d1, z1⟩ := StrsO.get _ _ H1.out k hlt
        obtain ⟨b2, o2, rfl, _, d2, z2⟩ := StrsO.get _ _ H2.out k hlt2
        have hd := take_drop_eq l1 l2 k hlt hlt2
        obtain ⟨s, hs⟩ : ∃ s, s = l1[k] := ⟨_, rfl⟩
        obtain ⟨t, ht⟩ : ∃ t, t = l2[k] := ⟨_, rfl⟩
        rw [← hs] at d1 hd
        rw [← ht] at d2 hd
        by_cases hst : s = t
        · have hb0 : (s.toList == t.toList) = true := by rw [bytes_eq, decide_eq_true hst]
          have hd2 : decide (l1.drop (k + 1) = l2.drop (k + 1)) = r := by
            rw [← Hq.out]
            by_cases h : l1.drop (k + 1) = l2.drop (k + 1)
            · rw [decide_eq_true h, decide_eq_true (hd.2 ⟨hst, h⟩)]
            · rw [decide_eq_false h, decide_eq_false (fun e => h (hd.1 e).2)]
          have HD := Lib.hid hd2
          clear hd hd2 hs ht hst
          go_wp2
          go_quiet (fail)
          go_wp2
          go_roundw
          case rel => exact ⟨k + 1, n + nq, by go_num, by omega, HD.out, rfl⟩
          case measure => simp [intOf]; omega
        · have hb0 : (s.toList == t.toList) = false := by rw [bytes_eq, decide_eq_false hst]
          have hrr : false = r := by rw [← Hq.out, decide_eq_false (fun e => hst (hd.1 e).1)]
          subst hrr
          clear hd hs ht hst
          go_wp2
          go_quiet (fail)
          go_wp2
          go_ret
          exact ⟨rfl, n + nq, World.drewN_drewN ..⟩
      · have hrr : true = r := by
          rw [← Hq.out, List.drop_eq_nil_of_le (by omega), List.drop_eq_nil_of_le (by rw [← HLen.out]; omega)]
          simp
        subst hrr
        go_wp2
        go_ret
        exact ⟨rfl, n, rfl⟩
  · have hne : ((l1.length : Int) != (l2.length : Int)) = true := by rw [bne_iff_ne]; omega
    have hrr : false = r := by rw [← HR.out, decide_eq_false (fun e => hlen (by rw [e]))]
    subst hrr
    clear hlen
    go_enter Try.func43, Try.ntmps43
    go_wp2
    go_ret
    exact ⟨rfl, 0, rfl⟩

theorem Ty.sizes_get : ∀ (l : List Ty) (k : Nat) (h : k < l.length), l[k].size ≤ Ty.sizes l
  | e :: r, 0, _ => by simp only [List.getElem_cons_zero, Ty.sizes]; omega
  | e :: r, k + 1, h => by have := Ty.sizes_get r k (by simpa using h); simp only [List.getElem_cons_succ, Ty.sizes]; omega
theorem BelC.drewN {w W : World} (h : BelC w W) (n : Nat) : BelC w (W.drewN n) := ⟨h.os, h.tape, h.output, h.size, h.block⟩
theorem BelC.old {w W : World} (h : BelC w W) {p : Addr} {v : Value} (hc : w.cell? p = some v) : W.cell? p = some v := (Below.cell h (World.block_lt_of_cell? w _ hc)).trans hc

set_option maxRecDepth 100000 in
set_option maxHeartbeats 1000000 in
theorem rsameTypes_of (f : Nat) (IH0 : ∀ (x y : Ty) (w : World) (S1 S2 : Nat → Prop) (vx vy : Value) (r : Bool), x.size ≤ f → (∀ k, S1 k → k < w.heap.size) → (∀ k, S2 k → k < w.heap.size) → TyV w S1 x vx → TyV w S2 y vy → (r = true ↔ x = y) →
      Calls Try.prog 24 #[vx, vy] w fun e w' => e = .returned (.bool r) ∧ Below w.heap.size w w')
    (l1 l2 : List Ty) (w : World) (S1 S2 : Nat → Prop) (A1 A2 : Option Addr) (c1 c2 : Nat) (r : Bool) (hf : Ty.sizes l1 ≤ f) (hS1 : ∀ k, S1 k → k < w.heap.size) (hS2 : ∀ k, S2 k → k < w.heap.size)
    (h1 : TysO w S1 l1 A1) (h2 : TysO w S2 l2 A2) (hc1 : l1.length ≤ c1) (hm1 : c1 ≤ maxLen) (_hc2 : l2.length ≤ c2) (_hm2 : c2 ≤ maxLen) (hr : r = true ↔ l1 = l2) :
    Calls Try.prog 44 #[.slice A1 l1.length c1, .slice A2 l2.length c2] w fun e w' => e = .returned (.bool r) ∧ Below w.heap.size w w' := by
  unfold maxLen at hm1
  have IH := Lib.hid IH0
  have H1 := Lib.hid h1
  have H2 := Lib.hid h2
  have HR := Lib.hid hr
  have HF := Lib.hid hf
  clear h1 h2 hr IH0 hf
  by_cases hlen : l1.length = l2.length
  · have hne : ((l1.length : Int) != (l2.length : Int)) = false := by rw [bne_eq_false_iff_eq]; omega
    have HLen := Lib.hid hlen
    clear hlen
    go_enter Try.func44, Try.ntmps44
    go_wp2
    go_loopw [5, 13] (fun _ i wr => ∃ k : Nat, i = .int .i64 k ∧ k ≤ l1.length ∧ (r = true ↔ l1.drop k = l2.drop k) ∧ Below w.heap.size w wr) (fun _ i _ => l1.length - (intOf i).toNat)
    case atStart => exact ⟨0, rfl, Nat.zero_le _, by rw [List.drop_zero, List.drop_zero]; exact HR.out, Below.refl _ _⟩
    case round =>
      obtain ⟨k, rfl, hk, hq, hb⟩ := hrel
      have Hq := Lib.hid hq
      have HB := Lib.hid hb
      clear hq hb
      by_cases hlt : k < l1.length
      · have hlt2 : k < l2.length := by rw [← HLen.out]; exact hlt
        obtain ⟨b1, o1, rfl, p1⟩ := TysO.get _ _ (TysO.keep (fun k hk => ⟨hk, HB.out.block k (hS1 k hk)⟩) _ _ H1.out) k hlt
        obtain ⟨b2, o2, rfl, p2⟩ := TysO.get _ _ (TysO.keep (fun k hk => ⟨hk, HB.out.block k (hS2 k hk)⟩) _ _ H2.out) k hlt2
        have hd := take_drop_eq l1 l2 k hlt hlt2
        have hsz : l1[k].size ≤ f := Nat.le_trans (Ty.sizes_get l1 k hlt) HF.out
        obtain ⟨s, hs⟩ : ∃ s, s = l1[k] := ⟨_, rfl⟩
        obtain ⟨t, ht⟩ : ∃ t, t = l2[k] := ⟨_, rfl⟩
        rw [← hs] at p1 hd hsz
        rw [← ht] at p2 hd
        obtain ⟨xA, yA, xL, yL, f0, f1, f2, f3, f4, hv⟩ := p1.val
        obtain ⟨zA, tA, zL, tL, g0, g1, g2, g3, g4, hu⟩ := p2.val
        have HV := Lib.hid hv
        have HU := Lib.hid hu
        have HD := Lib.hid hd
        clear hs ht p1 p2 hv hu hd
        obtain ⟨q, hq⟩ : ∃ q : Bool, (q = true ↔ s = t) := by
          by_cases h : s = t
          · exact ⟨true, by simp [h]⟩
          · exact ⟨false, by simp [h]⟩
        have HQ := Lib.hid hq
        clear hq
        have hz1 : ∀ k, S1 k → k < wr.heap.size := fun k hk => Nat.lt_of_lt_of_le (hS1 k hk) HB.out.size
        have hz2 : ∀ k, S2 k → k < wr.heap.size := fun k hk => Nat.lt_of_lt_of_le (hS2 k hk) HB.out.size
        have hih : ∀ W, BelC wr W → Calls Try.prog 24 #[.agg #[.int .i64 s.kind, .string s.str, .slice xA s.args.length yA, .slice xL s.labels.length yL, .bool s.op], .agg #[.int .i64 t.kind, .string t.str, .slice zA t.args.length tA, .slice zL t.labels.length tL, .bool t.op]] W fun e w' => e = .returned (.bool q) ∧ BelC wr w' := fun W hW =>
          (IH.out s t W S1 S2 _ _ q hsz (fun k hk => Nat.lt_of_lt_of_le (hz1 k hk) (Below.size hW)) (fun k hk => Nat.lt_of_lt_of_le (hz2 k hk) (Below.size hW)) (TyV.keep (fun k hk => ⟨hk, Below.block hW k (hz1 k hk)⟩) _ _ HV.out) (TyV.keep (fun k hk => ⟨hk, Below.block hW k (hz2 k hk)⟩) _ _ HU.out) HQ.out).mono fun _ _ h => ⟨h.1, Below.trans hW (h.2.mono (Below.size hW))⟩
        have HIH := Lib.hid hih
        clear hih
        have hcell : ∀ W, BelC wr W → W.cell? ⟨b1, o1 + k * 5, none⟩ = some (.int .i64 s.kind) ∧ W.cell? ⟨b1, o1 + k * 5 + 1, none⟩ = some (.string s.str) ∧ W.cell? ⟨b1, o1 + k * 5 + 2, none⟩ = some (.slice xA s.args.length yA) ∧ W.cell? ⟨b1, o1 + k * 5 + 3, none⟩ = some (.slice xL s.labels.length yL) ∧ W.cell? ⟨b1, o1 + k * 5 + 4, none⟩ = some (.bool s.op) ∧ W.cell? ⟨b2, o2 + k * 5, none⟩ = some (.int .i64 t.kind) ∧ W.cell? ⟨b2, o2 + k * 5 + 1, none⟩ = some (.string t.str) ∧ W.cell? ⟨b2, o2 + k * 5 + 2, none⟩ = some (.slice zA t.args.length tA) ∧ W.cell? ⟨b2, o2 + k * 5 + 3, none⟩ = some (.slice zL t.labels.length tL) ∧ W.cell? ⟨b2, o2 + k * 5 + 4, none⟩ = some (.bool t.op) := fun W hW => ⟨hW.old f0, hW.old f1, hW.old f2, hW.old f3, hW.old f4, hW.old g0, hW.old g1, hW.old g2, hW.old g3, hW.old g4⟩
        have HC := Lib.hid hcell
        have hx0 := HC.out wr (BelC.refl _)
        clear hcell
        go_wp2
        go_region_held3 (fun W => W.cell? ⟨b1, o1 + k * 5, none⟩ = some (.int .i64 s.kind) ∧ W.cell? ⟨b1, o1 + k * 5 + 1, none⟩ = some (.string s.str) ∧ W.cell? ⟨b1, o1 + k * 5 + 2, none⟩ = some (.slice xA s.args.length yA) ∧ W.cell? ⟨b1, o1 + k * 5 + 3, none⟩ = some (.slice xL s.labels.length yL) ∧ W.cell? ⟨b1, o1 + k * 5 + 4, none⟩ = some (.bool s.op) ∧ W.cell? ⟨b2, o2 + k * 5, none⟩ = some (.int .i64 t.kind) ∧ W.cell? ⟨b2, o2 + k * 5 + 1, none⟩ = some (.string t.str) ∧ W.cell? ⟨b2, o2 + k * 5 + 2, none⟩ = some (.slice zA t.args.length tA) ∧ W.cell? ⟨b2, o2 + k * 5 + 3, none⟩ = some (.slice zL t.labels.length tL) ∧ W.cell? ⟨b2, o2 + k * 5 + 4, none⟩ = some (.bool t.op))
          (first | exact hx0 | (refine HC.out _ ?_; (· repeat (first | assumption | exact BelC.refl _ | refine BelC.alloc ?_ _ | refine BelC.drew ?_))))
          (first | (go_at_call 24; with_reducible refine (HIH.out _ ?_).mono ?_; (· repeat (first | assumption | exact BelC.refl _ | refine BelC.alloc ?_ _ | refine BelC.drew ?_)); rintro e w' ⟨rfl, hb2⟩; have HB2 := Lib.hid hb2; clear hb2))
        cases q with
        | true =>
          have hst : s = t := HQ.out.1 rfl
          go_wp2
          go_roundw
          case rel => exact ⟨k + 1, by go_num, by omega, ⟨fun h => (HD.out.1 (Hq.out.1 h)).2, fun h => Hq.out.2 (HD.out.2 ⟨hst, h⟩)⟩, HB.out.trans (Below.mono HB2.out HB.out.size)⟩
          case measure => simp [intOf]; omega
        | false =>
          have hrr : r = false := by
            cases r with
            | false => rfl
            | true => exact absurd (HQ.out.2 (HD.out.1 (Hq.out.1 rfl)).1) (by simp)
          subst hrr
          go_wp2
          go_ret
          exact ⟨rfl, HB.out.trans (Below.mono HB2.out HB.out.size)⟩
      · have hk' : k = l1.length := by omega
        have hrr : r = true := Hq.out.2 (by rw [hk', List.drop_length, HLen.out, List.drop_length])
        subst hrr
        clear hk'
        go_wp2
        go_ret
        exact ⟨rfl, HB.out⟩
  · have hne : ((l1.length : Int) != (l2.length : Int)) = true := by rw [bne_iff_ne]; omega
    have hrr : r = false := by
      cases r with
      | false => rfl
      | true => exact absurd (congrArg List.length (HR.out.1 rfl)) hlen
    subst hrr
    clear hlen
    go_enter Try.func44, Try.ntmps44
    go_wp2
    go_ret
    exact ⟨rfl, Below.refl _ _⟩

set_option maxRecDepth 100000 in
set_option maxHeartbeats 1000000 in
theorem rsameType_any : ∀ (f : Nat) (x y : Ty) (w : World) (S1 S2 : Nat → Prop) (vx vy : Value) (r : Bool), x.size ≤ f → (∀ k, S1 k → k < w.heap.size) → (∀ k, S2 k → k < w.heap.size) → TyV w S1 x vx → TyV w S2 y vy → (r = true ↔ x = y) →
      Calls Try.prog 24 #[vx, vy] w fun e w' => e = .returned (.bool r) ∧ Below w.heap.size w w' := by
  intro f
  induction f with
  | zero => intro x y w S1 S2 vx vy r h; cases x; simp [Ty.size] at h
  | succ f ih =>
    intro x y w S1 S2 vx vy r hf hS1 hS2 hx hy hr
    obtain ⟨k1, s1, a1, l1, o1⟩ := x
    obtain ⟨k2, s2, a2, l2, o2⟩ := y
    have hsz : Ty.sizes a1 ≤ f := by simp only [Ty.size] at hf; omega
    unfold TyV at hx hy
    obtain ⟨A1, cA1, L1, cL1, rfl, hs1, hA1, hA1m, hL1, hL1m, tA1, tL1⟩ := hx
    obtain ⟨A2, cA2, L2, cL2, rfl, hs2, hA2, hA2m, hL2, hL2m, tA2, tL2⟩ := hy
    simp only [Ty.mk.injEq] at hr
    have HR := Lib.hid hr
    have HN := Lib.hid (fun W (hW : BelC w W) => (⟨StrsO.keep (fun k hk => ⟨hk, Below.block hW k (hS1 k hk)⟩) _ _ tL1, StrsO.keep (fun k hk => ⟨hk, Below.block hW k (hS2 k hk)⟩) _ _ tL2⟩ : StrsO W S1 l1 L1 ∧ StrsO W S2 l2 L2))
    obtain ⟨ra, hra⟩ : ∃ ra : Bool, (ra = true ↔ a1 = a2) := by
      by_cases h : a1 = a2
      · exact ⟨true, by simp [h]⟩
      · exact ⟨false, by simp [h]⟩
    have HT : Hid (∀ W, BelC w W → Calls Try.prog 44 #[.slice A1 a1.length cA1, .slice A2 a2.length cA2] W fun e w' => e = .returned (.bool ra) ∧ BelC w w') := Lib.hid fun W hW =>
      (rsameTypes_of f ih a1 a2 W S1 S2 A1 A2 cA1 cA2 ra hsz (fun k hk => Nat.lt_of_lt_of_le (hS1 k hk) (Below.size hW)) (fun k hk => Nat.lt_of_lt_of_le (hS2 k hk) (Below.size hW)) (TysO.keep (fun k hk => ⟨hk, Below.block hW k (hS1 k hk)⟩) _ _ tA1) (TysO.keep (fun k hk => ⟨hk, Below.block hW k (hS2 k hk)⟩) _ _ tA2) hA1 hA1m hA2 hA2m hra).mono fun _ _ h => ⟨h.1, Below.trans hW (h.2.mono (Below.size hW))⟩
    clear ih tA1 tA2 tL1 tL2 hr hf
    by_cases hk : k1 = k2
    · subst hk
      by_cases hs : s1 = s2
      · subst hs
        by_cases ho : o1 = o2
        · subst ho
          by_cases hl : l1 = l2
          · subst hl
            have hrr : r = ra := by
              have h1 : r = true ↔ ra = true := ⟨fun h => hra.2 (HR.out.1 h).2.2.1, fun h => HR.out.2 ⟨rfl, rfl, hra.1 h, rfl, rfl⟩⟩
              cases r <;> cases ra <;> simp_all
            subst hrr
            go_enter Try.func24, Try.ntmps24
            go_wp2_with (first | (go_at_call 43; with_reducible refine (names_r _ S1 S2 l1 l1 L1 L2 cL1 cL2 true (HN.out _ ?_).1 (HN.out _ ?_).2 hL1 hL1m hL2 hL2m (decide_eq_true rfl)).mono ?_; (· repeat (first | assumption | exact BelC.refl _ | refine BelC.alloc ?_ _ | refine BelC.drew ?_ | refine BelC.drewN ?_ _)); (· repeat (first | assumption | exact BelC.refl _ | refine BelC.alloc ?_ _ | refine BelC.drew ?_ | refine BelC.drewN ?_ _)); rintro e w' ⟨rfl, n, rfl⟩) | (go_at_call 44; with_reducible refine (HT.out _ ?_).mono ?_; (· repeat (first | assumption | exact BelC.refl _ | refine BelC.alloc ?_ _ | refine BelC.drew ?_ | refine BelC.drewN ?_ _)); rintro e w' ⟨rfl, hb2⟩; have HB2 := Lib.hid hb2; clear hb2))
            go_ret
            exact ⟨rfl, by repeat (first | assumption | exact Below.refl _ _ | refine BelC.alloc ?_ _ | refine BelC.drew ?_ | refine BelC.drewN ?_ _ | exact HB2.out)⟩
          · have hrr : r = false := by
              cases r with
              | false => rfl
              | true => exact absurd (HR.out.1 rfl).2.2.2.1 hl
            subst hrr
            go_enter Try.func24, Try.ntmps24
            go_wp2_with (first | (go_at_call 43; with_reducible refine (names_r _ S1 S2 l1 l2 L1 L2 cL1 cL2 false (HN.out _ ?_).1 (HN.out _ ?_).2 hL1 hL1m hL2 hL2m (decide_eq_false hl)).mono ?_; (· repeat (first | assumption | exact BelC.refl _ | refine BelC.alloc ?_ _ | refine BelC.drew ?_ | refine BelC.drewN ?_ _)); (· repeat (first | assumption | exact BelC.refl _ | refine BelC.alloc ?_ _ | refine BelC.drew ?_ | refine BelC.drewN ?_ _)); rintro e w' ⟨rfl, n, rfl⟩) | (go_at_call 44; with_reducible refine (HT.out _ ?_).mono ?_; (· repeat (first | assumption | exact BelC.refl _ | refine BelC.alloc ?_ _ | refine BelC.drew ?_ | refine BelC.drewN ?_ _)); rintro e w' ⟨rfl, hb2⟩; have HB2 := Lib.hid hb2; clear hb2))
            go_ret
            exact ⟨rfl, by repeat (first | assumption | exact Below.refl _ _ | refine BelC.alloc ?_ _ | refine BelC.drew ?_ | refine BelC.drewN ?_ _ | exact HB2.out)⟩
        · have hrr : r = false := by
            cases r with
            | false => rfl
            | true => exact absurd (HR.out.1 rfl).2.2.2.2 ho
          subst hrr
          go_enter Try.func24, Try.ntmps24
          go_wp2
          go_ret
          exact ⟨rfl, by repeat (first | assumption | exact Below.refl _ _ | refine BelC.alloc ?_ _ | refine BelC.drew ?_ | refine BelC.drewN ?_ _ | exact HB2.out)⟩
      · have hrr : r = false := by
          cases r with
          | false => rfl
          | true => exact absurd (HR.out.1 rfl).2.1 hs
        subst hrr
        have hb0 : (s1.toList == s2.toList) = false := by rw [bytes_eq, decide_eq_false hs]
        go_enter Try.func24, Try.ntmps24
        go_wp2
        go_ret
        exact ⟨rfl, by repeat (first | assumption | exact Below.refl _ _ | refine BelC.alloc ?_ _ | refine BelC.drew ?_ | refine BelC.drewN ?_ _ | exact HB2.out)⟩
    · have hrr : r = false := by
        cases r with
        | false => rfl
        | true => exact absurd (HR.out.1 rfl).1 hk
      subst hrr
      have hb0 : (k1 == k2) = false := by simpa using hk
      go_enter Try.func24, Try.ntmps24
      go_wp2
      go_ret
      exact ⟨rfl, by repeat (first | assumption | exact Below.refl _ _ | refine BelC.alloc ?_ _ | refine BelC.drew ?_ | refine BelC.drewN ?_ _ | exact HB2.out)⟩

end Go.Proofs.Ythgbldkcgfggfaa
