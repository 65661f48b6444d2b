/-
  trefoilref02.Same (draft).
-/
import Derived.Test.YthgbldkcgfggfaaRSame2
namespace Go.Proofs.Ythgbldkcgfggfaa
open Go.RowKit

theorem MmV.five {w : World} {S : Nat → Prop} {s : Mm} {xA xT : Option Addr} {yA yT : Nat} (h : MmV w S s (.agg #[.int .i64 s.kind, .string s.name, .string s.as', .slice xA s.args.length yA, .slice xT s.types.length yT])) :
    s.args.length ≤ yA ∧ yA ≤ maxLen ∧ s.types.length ≤ yT ∧ yT ≤ maxLen ∧ ExsO w S s.args xA ∧ TysO w S s.types xT := by
  cases s
  unfold MmV at h
  obtain ⟨a1, a2, a3, a4, e, h⟩ := h
  simp only [Mm.kind, Mm.name, Mm.as', Mm.args, Mm.types] at e ⊢
  simp only [Value.agg.injEq, Array.mk.injEq, List.cons.injEq, Value.slice.injEq] at e
  obtain ⟨_, _, _, ⟨rfl, _, rfl⟩, ⟨rfl, _, rfl⟩, _⟩ := e
  exact ⟨h.2.2.1, h.2.2.2.1, h.2.2.2.2.1, h.2.2.2.2.2.1, h.2.2.2.2.2.2.1, h.2.2.2.2.2.2.2⟩
theorem Mm.same5 {s t : Mm} (h0 : s.kind = t.kind) (h1 : s.name = t.name) (h2 : s.as' = t.as') (h3 : s.args = t.args) (h4 : s.types = t.types) : s = t := by
  cases s; cases t
  simp only [Mm.kind, Mm.name, Mm.as', Mm.args, Mm.types] at h0 h1 h2 h3 h4
  subst h0; subst h1; subst h2; subst h3; subst h4
  rfl

set_option maxRecDepth 100000 in
set_option maxHeartbeats 1000000 in
theorem rSame_any (g : Nat) : ∀ (f : Nat) (x y : Ex) (w : World) (S1 S2 : Nat → Prop) (vx vy : Value) (r : Bool), x.size ≤ f → x.tsize ≤ g → (∀ k, S1 k → k < w.heap.size) → (∀ k, S2 k → k < w.heap.size) → ExV w S1 x vx → ExV w S2 y vy → (r = true ↔ x = y) →
      Calls Try.prog 22 #[vx, vy] w fun e w' => e = .returned (.bool r) ∧ Below w.heap.size w w' := by
  intro f
  induction f with
  | zero => intro x y w S1 S2 vx vy r h; cases x; simp [Ex.size] at h
  | succ f ih =>
    intro x y w S1 S2 vx vy r hf hg hS1 hS2 hx hy hr
    obtain ⟨k1, s1, n1, a1, l1, t1, m1⟩ := x
    obtain ⟨k2, s2, n2, a2, l2, t2, m2⟩ := y
    have hsz : Ex.sizes a1 + Mm.sizes m1 ≤ f := by simp only [Ex.size] at hf; omega
    have htz : Ty.sizes t1 + Ex.tsizes a1 + Mm.tsizes m1 ≤ g := by simp only [Ex.tsize] at hg; omega
    unfold ExV at hx hy
    obtain ⟨A1, cA1, N1, cN1, T1, cT1, M1, cM1, rfl, hs1, hA1, hA1m, hN1, hN1m, hT1, hT1m, hM1, hM1m, oA1, oN1, oT1, oM1⟩ := hx
    obtain ⟨A2, cA2, N2, cN2, T2, cT2, M2, cM2, rfl, hs2, hA2, hA2m, hN2, hN2m, hT2, hT2m, hM2, hM2m, oA2, oN2, oT2, oM2⟩ := hy
    simp only [Ex.mk.injEq] at hr
    have HR := Lib.hid hr
    have IH := Lib.hid ih
    have HM1 := Lib.hid oM1
    have HM2 := Lib.hid oM2
    obtain ⟨w1, hw1⟩ : ∃ w1, w1 = ((w.alloc (.cells #[.int .i64 k1, .string s1, .int .i64 n1, .slice A1 a1.length cA1, .slice N1 l1.length cN1, .slice T1 t1.length cT1, .slice M1 m1.length cM1] 31)).alloc (.cells #[.int .i64 k2, .string s2, .int .i64 n2, .slice A2 a2.length cA2, .slice N2 l2.length cN2, .slice T2 t2.length cT2, .slice M2 m2.length cM2] 31)) := ⟨_, rfl⟩
    have hz : w1.heap.size = w.heap.size + 2 := by rw [hw1]; simp
    have hbw : ∀ W, BelC w1 W → Below w.heap.size w W := fun W hW => (((Below.refl _ w).alloc (Nat.le_refl _) _).alloc (by simp) _).trans (hw1 ▸ Below.mono hW (by omega))
    have hx1 : w1.heap[w.heap.size]? = some (.cells #[.int .i64 k1, .string s1, .int .i64 n1, .slice A1 a1.length cA1, .slice N1 l1.length cN1, .slice T1 t1.length cT1, .slice M1 m1.length cM1] 31 (0, 0)) := by rw [hw1]; exact (heap_past _ _ _ (by simp)).trans (heap_at _ _ _ rfl)
    have hx2 : w1.heap[w.heap.size + 1]? = some (.cells #[.int .i64 k2, .string s2, .int .i64 n2, .slice A2 a2.length cA2, .slice N2 l2.length cN2, .slice T2 t2.length cT2, .slice M2 m2.length cM2] 31 (0, 0)) := by rw [hw1]; exact heap_at _ _ _ (by simp)
    have hlt1 : ∀ W, BelC w1 W → (∀ k, S1 k → k < W.heap.size) ∧ (∀ k, S2 k → k < W.heap.size) := fun W hW => ⟨fun k hk => Nat.lt_of_lt_of_le (hS1 k hk) (hbw W hW).size, fun k hk => Nat.lt_of_lt_of_le (hS2 k hk) (hbw W hW).size⟩
    have hk1 : ∀ W, BelC w1 W → (∀ k, S1 k → S1 k ∧ W.heap[k]? = w.heap[k]?) ∧ (∀ k, S2 k → S2 k ∧ W.heap[k]? = w.heap[k]?) := fun W hW => ⟨fun k hk => ⟨hk, (hbw W hW).block k (hS1 k hk)⟩, fun k hk => ⟨hk, (hbw W hW).block k (hS2 k hk)⟩⟩
    have HN := Lib.hid (fun W (hW : BelC w1 W) => (⟨StrsO.keep (hk1 W hW).1 _ _ oN1, StrsO.keep (hk1 W hW).2 _ _ oN2⟩ : StrsO W S1 l1 N1 ∧ StrsO W S2 l2 N2))
    obtain ⟨ra, hra⟩ : ∃ ra : Bool, (ra = true ↔ a1 = a2) := by
      by_cases h : a1 = a2
      · exact ⟨true, by simp [h]⟩
      · exact ⟨false, by simp [h]⟩
    obtain ⟨rt, hrt⟩ : ∃ rt : Bool, (rt = true ↔ t1 = t2) := by
      by_cases h : t1 = t2
      · exact ⟨true, by simp [h]⟩
      · exact ⟨false, by simp [h]⟩
    have HT : Hid (∀ W, BelC w1 W → Calls Try.prog 44 #[.slice T1 t1.length cT1, .slice T2 t2.length cT2] W fun e w' => e = .returned (.bool rt) ∧ BelC w1 w') := Lib.hid fun W hW =>
      (rsameTypes_of g (rsameType_any g) t1 t2 W S1 S2 T1 T2 cT1 cT2 rt (by omega) (hlt1 W hW).1 (hlt1 W hW).2 (TysO.keep (hk1 W hW).1 _ _ oT1) (TysO.keep (hk1 W hW).2 _ _ oT2) hT1 hT1m hT2 hT2m hrt).mono fun _ _ h => ⟨h.1, Below.trans hW (h.2.mono (Below.size hW))⟩
    have HA : Hid (∀ W, BelC w1 W → Calls Try.prog 45 #[.slice A1 a1.length cA1, .slice A2 a2.length cA2] W fun e w' => e = .returned (.bool ra) ∧ BelC w1 w') := Lib.hid fun W hW =>
      (rsames_of f g ih a1 a2 W S1 S2 A1 A2 cA1 cA2 ra (by omega) (by omega) (hlt1 W hW).1 (hlt1 W hW).2 (ExsO.keep (hk1 W hW).1 _ _ oA1) (ExsO.keep (hk1 W hW).2 _ _ oA2) hA1 hA1m hA2 hA2m hra).mono fun _ _ h => ⟨h.1, Below.trans hW (h.2.mono (Below.size hW))⟩
    have HC := Lib.hid (fun W (hW : BelC w1 W) => (⟨blk_cell ((Below.block hW _ (by omega)).trans hx1) 3, blk_cell ((Below.block hW _ (by omega)).trans hx1) 4, blk_cell ((Below.block hW _ (by omega)).trans hx1) 5, blk_cell ((Below.block hW _ (by omega)).trans hx1) 6, blk_cell ((Below.block hW _ (by omega)).trans hx2) 3, blk_cell ((Below.block hW _ (by omega)).trans hx2) 4, blk_cell ((Below.block hW _ (by omega)).trans hx2) 5, blk_cell ((Below.block hW _ (by omega)).trans hx2) 6⟩ : W.cell? ⟨w.heap.size, 3, none⟩ = some (.slice A1 a1.length cA1) ∧ W.cell? ⟨w.heap.size, 4, none⟩ = some (.slice N1 l1.length cN1) ∧ W.cell? ⟨w.heap.size, 5, none⟩ = some (.slice T1 t1.length cT1) ∧ W.cell? ⟨w.heap.size, 6, none⟩ = some (.slice M1 m1.length cM1) ∧ W.cell? ⟨w.heap.size + 1, 3, none⟩ = some (.slice A2 a2.length cA2) ∧ W.cell? ⟨w.heap.size + 1, 4, none⟩ = some (.slice N2 l2.length cN2) ∧ W.cell? ⟨w.heap.size + 1, 5, none⟩ = some (.slice T2 t2.length cT2) ∧ W.cell? ⟨w.heap.size + 1, 6, none⟩ = some (.slice M2 m2.length cM2)))
    have HBW := Lib.hid hbw
    have HLT := Lib.hid hlt1
    have HK := Lib.hid hk1
    have HX1 := Lib.hid hx1
    have HX2 := Lib.hid hx2
    have HSZ := Lib.hid hsz
    have HTZ := Lib.hid htz
    have HRA := Lib.hid hra
    have HRT := Lib.hid hrt
    have HZ := Lib.hid hz
    clear hsz htz hra hrt hz
    clear ih oA1 oA2 oN1 oN2 oT1 oT2 oM1 oM2 hr hf hg hbw hlt1 hk1 hx1 hx2
    by_cases hk : k1 = k2
    · subst hk
      by_cases hs : s1 = s2
      · subst hs
        by_cases hn : n1 = n2
        · subst hn
          by_cases hl : l1 = l2
          · subst hl
            cases rt with
            | true =>
              cases ra with
              | true =>
                by_cases hm : m1.length = m2.length
                · have hml : ((m1.length : Int) != (m2.length : Int)) = false := by rw [bne_eq_false_iff_eq]; omega
                  have HLM := Lib.hid hm
                  clear hm
                  have hrm : r = true ↔ m1 = m2 := ⟨fun h => (HR.out.1 h).2.2.2.2.2.2, fun h => HR.out.2 ⟨rfl, rfl, rfl, HRA.out.1 rfl, rfl, HRT.out.1 rfl, h⟩⟩
                  have HRM := Lib.hid hrm
                  clear hrm
                  go_enter Try.func22, Try.ntmps22
                  go_wp2_with fail
                  rw [← hw1]
                  clear hw1
                  obtain ⟨v3, v4, v5, v6, va, vb, vc, vd⟩ := HC.out w1 (BelC.refl _)
                  go_wp2_with (first | (go_at_call 43; with_reducible refine (names_r _ S1 S2 l1 l1 N1 N2 cN1 cN2 true (HN.out _ ?_).1 (HN.out _ ?_).2 hN1 hN1m hN2 hN2m (decide_eq_true rfl)).mono ?_; (· repeat (first | assumption | exact BelC.refl _ | exact HB2.out | exact HB3.out | refine BelC.alloc ?_ _ | refine BelC.drew ?_ | refine BelC.drewN ?_ _)); (· repeat (first | assumption | exact BelC.refl _ | exact HB2.out | exact HB3.out | refine BelC.alloc ?_ _ | refine BelC.drew ?_ | refine BelC.drewN ?_ _)); rintro e w' ⟨rfl, n, rfl⟩; obtain ⟨x3, x4, x5, x6, xa, xb, xc, xd⟩ := HC.out (w1.drewN n) (by repeat (first | assumption | exact BelC.refl _ | exact HB2.out | exact HB3.out | refine BelC.alloc ?_ _ | refine BelC.drew ?_ | refine BelC.drewN ?_ _))) | (go_at_call 44; with_reducible refine (HT.out _ ?_).mono ?_; (· repeat (first | assumption | exact BelC.refl _ | exact HB2.out | exact HB3.out | refine BelC.alloc ?_ _ | refine BelC.drew ?_ | refine BelC.drewN ?_ _)); rintro e w2 ⟨rfl, hb2⟩; have HB2 := Lib.hid hb2; obtain ⟨y3, y4, y5, y6, ya, yb, yc, yd⟩ := HC.out w2 (by repeat (first | assumption | exact BelC.refl _ | exact HB2.out | exact HB3.out | refine BelC.alloc ?_ _ | refine BelC.drew ?_ | refine BelC.drewN ?_ _)); clear hb2) | (go_at_call 45; with_reducible refine (HA.out _ ?_).mono ?_; (· repeat (first | assumption | exact BelC.refl _ | exact HB2.out | exact HB3.out | refine BelC.alloc ?_ _ | refine BelC.drew ?_ | refine BelC.drewN ?_ _)); rintro e w3 ⟨rfl, hb3⟩; have HB3 := Lib.hid hb3; obtain ⟨z3, z4, z5, z6, za, zb, zc, zd⟩ := HC.out w3 (by repeat (first | assumption | exact BelC.refl _ | exact HB2.out | exact HB3.out | refine BelC.alloc ?_ _ | refine BelC.drew ?_ | refine BelC.drewN ?_ _)); clear hb3))
                  go_loopw [5, 6, 7, 63] (fun _ _ _ i wr => ∃ k : Nat, i = .int .i64 k ∧ k ≤ m1.length ∧ (r = true ↔ m1.drop k = m2.drop k) ∧ BelC w1 wr) (fun _ _ _ i _ => m1.length - (intOf i).toNat)
                  case atStart => exact ⟨0, rfl, Nat.zero_le _, by rw [List.drop_zero, List.drop_zero]; exact HRM.out, HB3.out⟩
                  case round =>
                    obtain ⟨k, rfl, hk, hq, hb⟩ := hrel
                    have Hq := Lib.hid hq
                    have HB := Lib.hid hb
                    clear hq hb
                    have hM1m' : cM1 ≤ 2 ^ 63 - 1 := hM1m
                    by_cases hlt : k < m1.length
                    · have hlt2 : k < m2.length := by rw [← HLM.out]; exact hlt
                      obtain ⟨b1, o1, rfl, p1⟩ := MmsO.get _ _ (MmsO.keep (HK.out _ HB.out).1 _ _ HM1.out) k hlt
                      obtain ⟨b2, o2, rfl, p2⟩ := MmsO.get _ _ (MmsO.keep (HK.out _ HB.out).2 _ _ HM2.out) k hlt2
                      have hd := take_drop_eq m1 m2 k hlt hlt2
                      have hsz := msizes_get m1 k hlt
                      have hszt := mtsizes_get m1 k hlt
                      obtain ⟨s, hs⟩ : ∃ s, s = m1[k] := ⟨_, rfl⟩
                      obtain ⟨t, ht⟩ : ∃ t, t = m2[k] := ⟨_, rfl⟩
                      rw [← hs] at p1 hd hsz hszt
                      rw [← ht] at p2 hd
                      obtain ⟨xA, yA, xT, yT, f0, f1, f2, f3, f4, hv⟩ := p1.val
                      obtain ⟨zA, tA, zT, tT, g0, g1, g2, g3, g4, hu⟩ := p2.val
                      obtain ⟨u3, u4, u5, u6, ua, ub, uc, ud⟩ := HC.out (wr.alloc (.cells #[.int .i64 s.kind, .string s.name, .string s.as', .slice xA s.args.length yA, .slice xT s.types.length yT] 49)) (BelC.alloc HB.out _)
                      have e0 := BelC.old (BelC.alloc (BelC.refl wr) (.cells #[.int .i64 s.kind, .string s.name, .string s.as', .slice xA s.args.length yA, .slice xT s.types.length yT] 49)) g0
                      have e1 := BelC.old (BelC.alloc (BelC.refl wr) (.cells #[.int .i64 s.kind, .string s.name, .string s.as', .slice xA s.args.length yA, .slice xT s.types.length yT] 49)) g1
                      have e2 := BelC.old (BelC.alloc (BelC.refl wr) (.cells #[.int .i64 s.kind, .string s.name, .string s.as', .slice xA s.args.length yA, .slice xT s.types.length yT] 49)) g2
                      have e3 := BelC.old (BelC.alloc (BelC.refl wr) (.cells #[.int .i64 s.kind, .string s.name, .string s.as', .slice xA s.args.length yA, .slice xT s.types.length yT] 49)) g3
                      have e4 := BelC.old (BelC.alloc (BelC.refl wr) (.cells #[.int .i64 s.kind, .string s.name, .string s.as', .slice xA s.args.length yA, .slice xT s.types.length yT] 49)) g4
                      have HV := Lib.hid hv
                      have HU := Lib.hid hu
                      have HD := Lib.hid hd
                      have HS1 := Lib.hid hsz
                      have HS2 := Lib.hid hszt
                      clear hs ht p1 p2 hv hu hd hsz hszt
                      have hs5 := HV.out.five
                      have ht5 := HU.out.five
                      have hrw := HB.out
                      obtain ⟨wM, hwM⟩ : ∃ wM, wM = (wr.alloc (.cells #[.int .i64 s.kind, .string s.name, .string s.as', .slice xA s.args.length yA, .slice xT s.types.length yT] 49)).alloc (.cells #[.int .i64 t.kind, .string t.name, .string t.as', .slice zA t.args.length tA, .slice zT t.types.length tT] 49) := ⟨_, rfl⟩
                      have hzM : wM.heap.size = wr.heap.size + 2 := by rw [hwM]; simp
                      have hbM : BelC wr wM := by rw [hwM]; exact BelC.alloc (BelC.alloc (BelC.refl _) _) _
                      have hx1 : wM.heap[wr.heap.size]? = some (.cells #[.int .i64 s.kind, .string s.name, .string s.as', .slice xA s.args.length yA, .slice xT s.types.length yT] 49 (0, 0)) := by rw [hwM]; exact (heap_past _ _ _ (by simp)).trans (heap_at _ _ _ rfl)
                      have hx2 : wM.heap[wr.heap.size + 1]? = some (.cells #[.int .i64 t.kind, .string t.name, .string t.as', .slice zA t.args.length tA, .slice zT t.types.length tT] 49 (0, 0)) := by rw [hwM]; exact heap_at _ _ _ (by simp)
                      have hbr : ∀ W, BelC wM W → Below wr.heap.size wr W := fun W hW => Below.trans hbM (Below.mono hW (Below.size hbM))
                      have HBR := Lib.hid hbr
                      have HB1 := Lib.hid (fun W (hW : BelC wM W) => (Below.trans hrw ((hbr W hW).mono (Below.size hrw)) : BelC w1 W))
                      have HCM := Lib.hid (fun W (hW : BelC wM W) => (⟨blk_cell ((Below.block hW _ (by omega)).trans hx1) 3, blk_cell ((Below.block hW _ (by omega)).trans hx1) 4, blk_cell ((Below.block hW _ (by omega)).trans hx2) 3, blk_cell ((Below.block hW _ (by omega)).trans hx2) 4⟩ : W.cell? ⟨wr.heap.size, 3, none⟩ = some (.slice xA s.args.length yA) ∧ W.cell? ⟨wr.heap.size, 4, none⟩ = some (.slice xT s.types.length yT) ∧ W.cell? ⟨wr.heap.size + 1, 3, none⟩ = some (.slice zA t.args.length tA) ∧ W.cell? ⟨wr.heap.size + 1, 4, none⟩ = some (.slice zT t.types.length tT)))
                      have hsS := HLT.out wr hrw
                      have hkp : ∀ W, BelC wM W → (∀ k, S1 k → S1 k ∧ W.heap[k]? = wr.heap[k]?) ∧ (∀ k, S2 k → S2 k ∧ W.heap[k]? = wr.heap[k]?) := fun W hW => ⟨fun k hk => ⟨hk, (hbr W hW).block k (hsS.1 k hk)⟩, fun k hk => ⟨hk, (hbr W hW).block k (hsS.2 k hk)⟩⟩
                      have hltW : ∀ W, BelC wM W → (∀ k, S1 k → k < W.heap.size) ∧ (∀ k, S2 k → k < W.heap.size) := fun W hW => ⟨fun k hk => Nat.lt_of_lt_of_le (hsS.1 k hk) (hbr W hW).size, fun k hk => Nat.lt_of_lt_of_le (hsS.2 k hk) (hbr W hW).size⟩
                      have hsf : Ex.sizes s.args ≤ f := by have := Mm.size_eq s; have := HS1.out; have := HSZ.out; omega
                      have hsg : Ex.tsizes s.args ≤ g ∧ Ty.sizes s.types ≤ g := by have := Mm.tsize_eq s; have := HS2.out; have := HTZ.out; omega
                      obtain ⟨qa, hqa⟩ : ∃ qa : Bool, (qa = true ↔ s.args = t.args) := by
                        by_cases h : s.args = t.args
                        · exact ⟨true, by simp [h]⟩
                        · exact ⟨false, by simp [h]⟩
                      obtain ⟨qt, hqt⟩ : ∃ qt : Bool, (qt = true ↔ s.types = t.types) := by
                        by_cases h : s.types = t.types
                        · exact ⟨true, by simp [h]⟩
                        · exact ⟨false, by simp [h]⟩
                      have HTM : Hid (∀ W, BelC wM W → Calls Try.prog 44 #[.slice xT s.types.length yT, .slice zT t.types.length tT] W fun e w' => e = .returned (.bool qt) ∧ BelC wM w') := Lib.hid fun W hW =>
                        (rsameTypes_of g (rsameType_any g) s.types t.types W S1 S2 xT zT yT tT qt hsg.2 (hltW W hW).1 (hltW W hW).2 (TysO.keep (hkp W hW).1 _ _ hs5.2.2.2.2.2) (TysO.keep (hkp W hW).2 _ _ ht5.2.2.2.2.2) hs5.2.2.1 hs5.2.2.2.1 ht5.2.2.1 ht5.2.2.2.1 hqt).mono fun _ _ h => ⟨h.1, Below.trans hW (h.2.mono (Below.size hW))⟩
                      have HAM : Hid (∀ W, BelC wM W → Calls Try.prog 45 #[.slice xA s.args.length yA, .slice zA t.args.length tA] W fun e w' => e = .returned (.bool qa) ∧ BelC wM w') := Lib.hid fun W hW =>
                        (rsames_of f g IH.out s.args t.args W S1 S2 xA zA yA tA qa hsf hsg.1 (hltW W hW).1 (hltW W hW).2 (ExsO.keep (hkp W hW).1 _ _ hs5.2.2.2.2.1) (ExsO.keep (hkp W hW).2 _ _ ht5.2.2.2.2.1) hs5.1 hs5.2.1 ht5.1 ht5.2.1 hqa).mono fun _ _ h => ⟨h.1, Below.trans hW (h.2.mono (Below.size hW))⟩
                      have HQA := Lib.hid hqa
                      have HQT := Lib.hid hqt
                      have HHM := Lib.hid hwM
                      have hal : BelC w1 wM := HB1.out wM (BelC.refl _)
                      have HBM := Lib.hid hal
                      clear hs5 ht5 hrw hzM hbM hx1 hx2 hbr hsS hkp hltW hsf hsg hqa hqt hwM hal
                      by_cases h0 : s.kind = t.kind
                      · have g0 : (s.kind != t.kind) = false := by rw [bne_eq_false_iff_eq]; exact h0
                        have H0 := Lib.hid h0
                        clear h0
                        by_cases h1 : s.name = t.name
                        · have g1 : (s.name.toList == t.name.toList) = true := by rw [bytes_eq, decide_eq_true h1]
                          have H1 := Lib.hid h1
                          clear h1
                          by_cases h2 : s.as' = t.as'
                          · have g2 : (s.as'.toList == t.as'.toList) = true := by rw [bytes_eq, decide_eq_true h2]
                            have H2 := Lib.hid h2
                            clear h2
                            have hwM := HHM.out
                            cases qa with
                            | true =>
                              cases qt with
                              | true =>
                                have hst : s = t := Mm.same5 H0.out H1.out H2.out (HQA.out.1 rfl) (HQT.out.1 rfl)
                                have HST := Lib.hid hst
                                clear hst
                                go_wp2_with fail
                                rw [← hwM]
                                clear hwM
                                obtain ⟨i3, i4, j3, j4⟩ := HCM.out wM (BelC.refl _)
                                go_wp2_with (first | (go_at_call 45; with_reducible refine (HAM.out _ ?_).mono ?_; (· repeat (first | assumption | exact BelC.refl _ | exact HBQ.out | exact HBP.out | refine BelC.alloc ?_ _ | refine BelC.drew ?_ | refine BelC.drewN ?_ _)); rintro e w4 ⟨rfl, hb4⟩; have HBQ := Lib.hid hb4; obtain ⟨k3, k4, l3, l4⟩ := HCM.out w4 (by repeat (first | assumption | exact BelC.refl _ | exact HBQ.out | exact HBP.out | refine BelC.alloc ?_ _ | refine BelC.drew ?_ | refine BelC.drewN ?_ _)); clear hb4) | (go_at_call 44; with_reducible refine (HTM.out _ ?_).mono ?_; (· repeat (first | assumption | exact BelC.refl _ | exact HBQ.out | exact HBP.out | refine BelC.alloc ?_ _ | refine BelC.drew ?_ | refine BelC.drewN ?_ _)); rintro e w5 ⟨rfl, hb5⟩; have HBP := Lib.hid hb5; clear hb5))
                                go_roundw
                                case rel => exact ⟨k + 1, by go_num, by omega, ⟨fun h => (HD.out.1 (Hq.out.1 h)).2, fun h => Hq.out.2 (HD.out.2 ⟨HST.out, h⟩)⟩, HB1.out _ HBP.out⟩
                                case measure => simp [intOf]; omega
                              | false =>
                                have hrr : r = false := by
                                  cases r with
                                  | false => rfl
                                  | true => exact absurd (HQT.out.2 (congrArg Mm.types (HD.out.1 (Hq.out.1 rfl)).1)) (by simp)
                                subst hrr
                                go_wp2_with fail
                                rw [← hwM]
                                clear hwM
                                obtain ⟨i3, i4, j3, j4⟩ := HCM.out wM (BelC.refl _)
                                go_wp2_with (first | (go_at_call 45; with_reducible refine (HAM.out _ ?_).mono ?_; (· repeat (first | assumption | exact BelC.refl _ | exact HBQ.out | exact HBP.out | refine BelC.alloc ?_ _ | refine BelC.drew ?_ | refine BelC.drewN ?_ _)); rintro e w4 ⟨rfl, hb4⟩; have HBQ := Lib.hid hb4; obtain ⟨k3, k4, l3, l4⟩ := HCM.out w4 (by repeat (first | assumption | exact BelC.refl _ | exact HBQ.out | exact HBP.out | refine BelC.alloc ?_ _ | refine BelC.drew ?_ | refine BelC.drewN ?_ _)); clear hb4) | (go_at_call 44; with_reducible refine (HTM.out _ ?_).mono ?_; (· repeat (first | assumption | exact BelC.refl _ | exact HBQ.out | exact HBP.out | refine BelC.alloc ?_ _ | refine BelC.drew ?_ | refine BelC.drewN ?_ _)); rintro e w5 ⟨rfl, hb5⟩; have HBP := Lib.hid hb5; clear hb5))
                                go_ret
                                exact ⟨rfl, HBW.out _ (HB1.out _ HBP.out)⟩
                            | false =>
                              have hrr : r = false := by
                                cases r with
                                | false => rfl
                                | true => exact absurd (HQA.out.2 (congrArg Mm.args (HD.out.1 (Hq.out.1 rfl)).1)) (by simp)
                              subst hrr
                              go_wp2_with fail
                              rw [← hwM]
                              clear hwM
                              obtain ⟨i3, i4, j3, j4⟩ := HCM.out wM (BelC.refl _)
                              go_wp2_with (first | (go_at_call 45; with_reducible refine (HAM.out _ ?_).mono ?_; (· repeat (first | assumption | exact BelC.refl _ | exact HBQ.out | exact HBP.out | refine BelC.alloc ?_ _ | refine BelC.drew ?_ | refine BelC.drewN ?_ _)); rintro e w4 ⟨rfl, hb4⟩; have HBQ := Lib.hid hb4; obtain ⟨k3, k4, l3, l4⟩ := HCM.out w4 (by repeat (first | assumption | exact BelC.refl _ | exact HBQ.out | exact HBP.out | refine BelC.alloc ?_ _ | refine BelC.drew ?_ | refine BelC.drewN ?_ _)); clear hb4) | (go_at_call 44; with_reducible refine (HTM.out _ ?_).mono ?_; (· repeat (first | assumption | exact BelC.refl _ | exact HBQ.out | exact HBP.out | refine BelC.alloc ?_ _ | refine BelC.drew ?_ | refine BelC.drewN ?_ _)); rintro e w5 ⟨rfl, hb5⟩; have HBP := Lib.hid hb5; clear hb5))
                              go_ret
                              exact ⟨rfl, HBW.out _ (HB1.out _ HBQ.out)⟩
                          · have g2 : (s.as'.toList == t.as'.toList) = false := by rw [bytes_eq, decide_eq_false h2]
                            have hrr : r = false := by
                              cases r with
                              | false => rfl
                              | true => exact absurd (congrArg Mm.as' (HD.out.1 (Hq.out.1 rfl)).1) h2
                            subst hrr
                            go_wp2_with fail
                            go_ret
                            exact ⟨rfl, HBW.out _ (by repeat (first | assumption | exact BelC.refl _ | exact HB.out | exact HBM.out | exact HBQ.out | exact HBP.out | refine BelC.alloc ?_ _ | refine BelC.drew ?_ | refine BelC.drewN ?_ _))⟩
                        · have g1 : (s.name.toList == t.name.toList) = false := by rw [bytes_eq, decide_eq_false h1]
                          have hrr : r = false := by
                            cases r with
                            | false => rfl
                            | true => exact absurd (congrArg Mm.name (HD.out.1 (Hq.out.1 rfl)).1) h1
                          subst hrr
                          go_wp2_with fail
                          go_ret
                          exact ⟨rfl, HBW.out _ (by repeat (first | assumption | exact BelC.refl _ | exact HB.out | exact HBM.out | exact HBQ.out | exact HBP.out | refine BelC.alloc ?_ _ | refine BelC.drew ?_ | refine BelC.drewN ?_ _))⟩
                      · have g0 : (s.kind != t.kind) = true := by rw [bne_iff_ne]; exact h0
                        have hrr : r = false := by
                          cases r with
                          | false => rfl
                          | true => exact absurd (congrArg Mm.kind (HD.out.1 (Hq.out.1 rfl)).1) h0
                        subst hrr
                        go_wp2_with fail
                        go_ret
                        exact ⟨rfl, HBW.out _ (by repeat (first | assumption | exact BelC.refl _ | exact HB.out | exact HBM.out | exact HBQ.out | exact HBP.out | refine BelC.alloc ?_ _ | refine BelC.drew ?_ | refine BelC.drewN ?_ _))⟩
                    · have hk' : k = m1.length := by omega
                      have hrr : r = true := Hq.out.2 (by rw [hk', List.drop_length, HLM.out, List.drop_length])
                      subst hrr
                      clear hk'
                      go_wp2
                      go_ret
                      exact ⟨rfl, HBW.out _ HB.out⟩
                · have hml : ((m1.length : Int) != (m2.length : Int)) = true := by rw [bne_iff_ne]; omega
                  have hrr : r = false := by
                    cases r with
                    | false => rfl
                    | true => exact absurd (congrArg List.length (HR.out.1 rfl).2.2.2.2.2.2) hm
                  subst hrr
                  go_enter Try.func22, Try.ntmps22
                  go_wp2_with fail
                  rw [← hw1]
                  clear hw1
                  obtain ⟨v3, v4, v5, v6, va, vb, vc, vd⟩ := HC.out w1 (BelC.refl _)
                  go_wp2_with (first | (go_at_call 43; with_reducible refine (names_r _ S1 S2 l1 l1 N1 N2 cN1 cN2 true (HN.out _ ?_).1 (HN.out _ ?_).2 hN1 hN1m hN2 hN2m (decide_eq_true rfl)).mono ?_; (· repeat (first | assumption | exact BelC.refl _ | exact HB2.out | exact HB3.out | refine BelC.alloc ?_ _ | refine BelC.drew ?_ | refine BelC.drewN ?_ _)); (· repeat (first | assumption | exact BelC.refl _ | exact HB2.out | exact HB3.out | refine BelC.alloc ?_ _ | refine BelC.drew ?_ | refine BelC.drewN ?_ _)); rintro e w' ⟨rfl, n, rfl⟩; obtain ⟨x3, x4, x5, x6, xa, xb, xc, xd⟩ := HC.out (w1.drewN n) (by repeat (first | assumption | exact BelC.refl _ | exact HB2.out | exact HB3.out | refine BelC.alloc ?_ _ | refine BelC.drew ?_ | refine BelC.drewN ?_ _))) | (go_at_call 44; with_reducible refine (HT.out _ ?_).mono ?_; (· repeat (first | assumption | exact BelC.refl _ | exact HB2.out | exact HB3.out | refine BelC.alloc ?_ _ | refine BelC.drew ?_ | refine BelC.drewN ?_ _)); rintro e w2 ⟨rfl, hb2⟩; have HB2 := Lib.hid hb2; obtain ⟨y3, y4, y5, y6, ya, yb, yc, yd⟩ := HC.out w2 (by repeat (first | assumption | exact BelC.refl _ | exact HB2.out | exact HB3.out | refine BelC.alloc ?_ _ | refine BelC.drew ?_ | refine BelC.drewN ?_ _)); clear hb2) | (go_at_call 45; with_reducible refine (HA.out _ ?_).mono ?_; (· repeat (first | assumption | exact BelC.refl _ | exact HB2.out | exact HB3.out | refine BelC.alloc ?_ _ | refine BelC.drew ?_ | refine BelC.drewN ?_ _)); rintro e w3 ⟨rfl, hb3⟩; have HB3 := Lib.hid hb3; obtain ⟨z3, z4, z5, z6, za, zb, zc, zd⟩ := HC.out w3 (by repeat (first | assumption | exact BelC.refl _ | exact HB2.out | exact HB3.out | refine BelC.alloc ?_ _ | refine BelC.drew ?_ | refine BelC.drewN ?_ _)); clear hb3))
                  go_ret
                  exact ⟨rfl, by first | exact HBW.out _ (by repeat (first | assumption | exact BelC.refl _ | exact HB2.out | exact HB3.out | refine BelC.alloc ?_ _ | refine BelC.drew ?_ | refine BelC.drewN ?_ _))⟩
              | false =>
                have hrr : r = false := by
                  cases r with
                  | false => rfl
                  | true => exact absurd (HRA.out.2 (HR.out.1 rfl).2.2.2.1) (by simp)
                subst hrr
                go_enter Try.func22, Try.ntmps22
                go_wp2_with fail
                rw [← hw1]
                clear hw1
                obtain ⟨v3, v4, v5, v6, va, vb, vc, vd⟩ := HC.out w1 (BelC.refl _)
                go_wp2_with (first | (go_at_call 43; with_reducible refine (names_r _ S1 S2 l1 l1 N1 N2 cN1 cN2 true (HN.out _ ?_).1 (HN.out _ ?_).2 hN1 hN1m hN2 hN2m (decide_eq_true rfl)).mono ?_; (· repeat (first | assumption | exact BelC.refl _ | exact HB2.out | exact HB3.out | refine BelC.alloc ?_ _ | refine BelC.drew ?_ | refine BelC.drewN ?_ _)); (· repeat (first | assumption | exact BelC.refl _ | exact HB2.out | exact HB3.out | refine BelC.alloc ?_ _ | refine BelC.drew ?_ | refine BelC.drewN ?_ _)); rintro e w' ⟨rfl, n, rfl⟩; obtain ⟨x3, x4, x5, x6, xa, xb, xc, xd⟩ := HC.out (w1.drewN n) (by repeat (first | assumption | exact BelC.refl _ | exact HB2.out | exact HB3.out | refine BelC.alloc ?_ _ | refine BelC.drew ?_ | refine BelC.drewN ?_ _))) | (go_at_call 44; with_reducible refine (HT.out _ ?_).mono ?_; (· repeat (first | assumption | exact BelC.refl _ | exact HB2.out | exact HB3.out | refine BelC.alloc ?_ _ | refine BelC.drew ?_ | refine BelC.drewN ?_ _)); rintro e w2 ⟨rfl, hb2⟩; have HB2 := Lib.hid hb2; obtain ⟨y3, y4, y5, y6, ya, yb, yc, yd⟩ := HC.out w2 (by repeat (first | assumption | exact BelC.refl _ | exact HB2.out | exact HB3.out | refine BelC.alloc ?_ _ | refine BelC.drew ?_ | refine BelC.drewN ?_ _)); clear hb2) | (go_at_call 45; with_reducible refine (HA.out _ ?_).mono ?_; (· repeat (first | assumption | exact BelC.refl _ | exact HB2.out | exact HB3.out | refine BelC.alloc ?_ _ | refine BelC.drew ?_ | refine BelC.drewN ?_ _)); rintro e w3 ⟨rfl, hb3⟩; have HB3 := Lib.hid hb3; obtain ⟨z3, z4, z5, z6, za, zb, zc, zd⟩ := HC.out w3 (by repeat (first | assumption | exact BelC.refl _ | exact HB2.out | exact HB3.out | refine BelC.alloc ?_ _ | refine BelC.drew ?_ | refine BelC.drewN ?_ _)); clear hb3))
                go_ret
                exact ⟨rfl, by first | exact HBW.out _ (by repeat (first | assumption | exact BelC.refl _ | exact HB2.out | exact HB3.out | refine BelC.alloc ?_ _ | refine BelC.drew ?_ | refine BelC.drewN ?_ _))⟩
            | false =>
              have hrr : r = false := by
                cases r with
                | false => rfl
                | true => exact absurd (HRT.out.2 (HR.out.1 rfl).2.2.2.2.2.1) (by simp)
              subst hrr
              go_enter Try.func22, Try.ntmps22
              go_wp2_with fail
              rw [← hw1]
              clear hw1
              obtain ⟨v3, v4, v5, v6, va, vb, vc, vd⟩ := HC.out w1 (BelC.refl _)
              go_wp2_with (first | (go_at_call 43; with_reducible refine (names_r _ S1 S2 l1 l1 N1 N2 cN1 cN2 true (HN.out _ ?_).1 (HN.out _ ?_).2 hN1 hN1m hN2 hN2m (decide_eq_true rfl)).mono ?_; (· repeat (first | assumption | exact BelC.refl _ | exact HB2.out | exact HB3.out | refine BelC.alloc ?_ _ | refine BelC.drew ?_ | refine BelC.drewN ?_ _)); (· repeat (first | assumption | exact BelC.refl _ | exact HB2.out | exact HB3.out | refine BelC.alloc ?_ _ | refine BelC.drew ?_ | refine BelC.drewN ?_ _)); rintro e w' ⟨rfl, n, rfl⟩; obtain ⟨x3, x4, x5, x6, xa, xb, xc, xd⟩ := HC.out (w1.drewN n) (by repeat (first | assumption | exact BelC.refl _ | exact HB2.out | exact HB3.out | refine BelC.alloc ?_ _ | refine BelC.drew ?_ | refine BelC.drewN ?_ _))) | (go_at_call 44; with_reducible refine (HT.out _ ?_).mono ?_; (· repeat (first | assumption | exact BelC.refl _ | exact HB2.out | exact HB3.out | refine BelC.alloc ?_ _ | refine BelC.drew ?_ | refine BelC.drewN ?_ _)); rintro e w2 ⟨rfl, hb2⟩; have HB2 := Lib.hid hb2; obtain ⟨y3, y4, y5, y6, ya, yb, yc, yd⟩ := HC.out w2 (by repeat (first | assumption | exact BelC.refl _ | exact HB2.out | exact HB3.out | refine BelC.alloc ?_ _ | refine BelC.drew ?_ | refine BelC.drewN ?_ _)); clear hb2) | (go_at_call 45; with_reducible refine (HA.out _ ?_).mono ?_; (· repeat (first | assumption | exact BelC.refl _ | exact HB2.out | exact HB3.out | refine BelC.alloc ?_ _ | refine BelC.drew ?_ | refine BelC.drewN ?_ _)); rintro e w3 ⟨rfl, hb3⟩; have HB3 := Lib.hid hb3; obtain ⟨z3, z4, z5, z6, za, zb, zc, zd⟩ := HC.out w3 (by repeat (first | assumption | exact BelC.refl _ | exact HB2.out | exact HB3.out | refine BelC.alloc ?_ _ | refine BelC.drew ?_ | refine BelC.drewN ?_ _)); clear hb3))
              go_ret
              exact ⟨rfl, by first | exact HBW.out _ (by repeat (first | assumption | exact BelC.refl _ | exact HB2.out | exact HB3.out | refine BelC.alloc ?_ _ | refine BelC.drew ?_ | refine BelC.drewN ?_ _))⟩
          · have hrr : r = false := by
              cases r with
              | false => rfl
              | true => exact absurd (HR.out.1 rfl).2.2.2.2.1 hl
            subst hrr
            go_enter Try.func22, Try.ntmps22
            go_wp2_with fail
            rw [← hw1]
            clear hw1
            obtain ⟨v3, v4, v5, v6, va, vb, vc, vd⟩ := HC.out w1 (BelC.refl _)
            go_wp2_with (first | (go_at_call 43; with_reducible refine (names_r _ S1 S2 l1 l2 N1 N2 cN1 cN2 false (HN.out _ ?_).1 (HN.out _ ?_).2 hN1 hN1m hN2 hN2m (decide_eq_false hl)).mono ?_; (· repeat (first | assumption | exact BelC.refl _ | exact HB2.out | exact HB3.out | refine BelC.alloc ?_ _ | refine BelC.drew ?_ | refine BelC.drewN ?_ _)); (· repeat (first | assumption | exact BelC.refl _ | exact HB2.out | exact HB3.out | refine BelC.alloc ?_ _ | refine BelC.drew ?_ | refine BelC.drewN ?_ _)); rintro e w' ⟨rfl, n, rfl⟩; obtain ⟨x3, x4, x5, x6, xa, xb, xc, xd⟩ := HC.out (w1.drewN n) (by repeat (first | assumption | exact BelC.refl _ | exact HB2.out | exact HB3.out | refine BelC.alloc ?_ _ | refine BelC.drew ?_ | refine BelC.drewN ?_ _))) | (go_at_call 44; with_reducible refine (HT.out _ ?_).mono ?_; (· repeat (first | assumption | exact BelC.refl _ | exact HB2.out | exact HB3.out | refine BelC.alloc ?_ _ | refine BelC.drew ?_ | refine BelC.drewN ?_ _)); rintro e w2 ⟨rfl, hb2⟩; have HB2 := Lib.hid hb2; obtain ⟨y3, y4, y5, y6, ya, yb, yc, yd⟩ := HC.out w2 (by repeat (first | assumption | exact BelC.refl _ | exact HB2.out | exact HB3.out | refine BelC.alloc ?_ _ | refine BelC.drew ?_ | refine BelC.drewN ?_ _)); clear hb2) | (go_at_call 45; with_reducible refine (HA.out _ ?_).mono ?_; (· repeat (first | assumption | exact BelC.refl _ | exact HB2.out | exact HB3.out | refine BelC.alloc ?_ _ | refine BelC.drew ?_ | refine BelC.drewN ?_ _)); rintro e w3 ⟨rfl, hb3⟩; have HB3 := Lib.hid hb3; obtain ⟨z3, z4, z5, z6, za, zb, zc, zd⟩ := HC.out w3 (by repeat (first | assumption | exact BelC.refl _ | exact HB2.out | exact HB3.out | refine BelC.alloc ?_ _ | refine BelC.drew ?_ | refine BelC.drewN ?_ _)); clear hb3))
            go_ret
            exact ⟨rfl, by first | exact HBW.out _ (by repeat (first | assumption | exact BelC.refl _ | exact HB2.out | exact HB3.out | refine BelC.alloc ?_ _ | refine BelC.drew ?_ | refine BelC.drewN ?_ _))⟩
        · have hrr : r = false := by
            cases r with
            | false => rfl
            | true => exact absurd (HR.out.1 rfl).2.2.1 hn
          subst hrr
          go_enter Try.func22, Try.ntmps22
          go_wp2
          go_ret
          exact ⟨rfl, by repeat (first | assumption | exact Below.refl _ _ | refine BelC.alloc ?_ _ | refine BelC.drew ?_ | refine BelC.drewN ?_ _ | exact HB2.out)⟩
      · have hrr : r = false := by
          cases r with
          | false => rfl
          | true => exact absurd (HR.out.1 rfl).2.1 hs
        subst hrr
        have hb0 : (s1.toList == s2.toList) = false := by rw [bytes_eq, decide_eq_false hs]
        go_enter Try.func22, Try.ntmps22
        go_wp2
        go_ret
        exact ⟨rfl, by repeat (first | assumption | exact Below.refl _ _ | refine BelC.alloc ?_ _ | refine BelC.drew ?_ | refine BelC.drewN ?_ _ | exact HB2.out)⟩
    · have hrr : r = false := by
        cases r with
        | false => rfl
        | true => exact absurd (HR.out.1 rfl).1 hk
      subst hrr
      go_enter Try.func22, Try.ntmps22
      go_wp2
      go_ret
      exact ⟨rfl, by repeat (first | assumption | exact Below.refl _ _ | refine BelC.alloc ?_ _ | refine BelC.drew ?_ | refine BelC.drewN ?_ _ | exact HB2.out)⟩

end Go.Proofs.Ythgbldkcgfggfaa
