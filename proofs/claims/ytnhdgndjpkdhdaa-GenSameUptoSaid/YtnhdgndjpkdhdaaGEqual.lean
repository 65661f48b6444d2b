/-
  trefoilref06.Equal.
-/
import Derived.Test.YtnhdgndjpkdhdaaGFree
import Derived.Test.YtnhdgndjpkdhdaaGBel
namespace Go.Proofs.Ytnhdgndjpkdhdaa
open Go.RowKit

theorem RNd.eq_of {x y : RNd} (h : x.alike y) (ha : x.args = y.args) : x = y := by
  cases x; cases y
  simp only [RNd.alike] at h
  obtain ⟨rfl, rfl, rfl, _, rfl⟩ := h
  simp only at ha
  subst ha
  rfl
theorem RNd.eq_iff {x y : RNd} : x = y ↔ x.alike y ∧ x.args = y.args :=
  ⟨fun e => by subst e; exact ⟨⟨rfl, rfl, rfl, rfl, rfl⟩, rfl⟩, fun h => RNd.eq_of h.1 h.2⟩

set_option maxRecDepth 100000 in
set_option maxHeartbeats 2000000 in
theorem gequal_r (w : World) (S1 S2 : Nat → Prop) (g h : RGr) (gv hv : Value) (r : Bool) (hS1 : ∀ k, S1 k → k < w.heap.size) (hS2 : ∀ k, S2 k → k < w.heap.size) (hg : GrV w S1 g gv) (hh : GrV w S2 h hv) (hr : r = true ↔ g = h) :
    Calls Try.prog 16 #[gv, hv] w fun e w' => e = .returned (.bool r) ∧ Below w.heap.size w w' := by
  obtain ⟨n1, r1⟩ := g
  obtain ⟨n2, r2⟩ := h
  obtain ⟨A1, c1, rfl, hc1, hc19, oN1⟩ := hg
  obtain ⟨A2, c2, rfl, hc2, hc29, oN2⟩ := hh
  simp only [RGr.mk.injEq] at hr hc1 hc2 oN1 oN2
  have HR := Lib.hid hr
  have HO1 := Lib.hid oN1
  have HO2 := Lib.hid oN2
  have HS1 := Lib.hid hS1
  have HS2 := Lib.hid hS2
  clear hr oN1 oN2 hS1 hS2
  unfold maxLen at hc19 hc29
  by_cases h0 : r1 = r2
  · subst h0
    by_cases hl : n1.length = n2.length
    · have hne : ((n1.length : Int) != (n2.length : Int)) = false := by rw [bne_eq_false_iff_eq]; omega
      have HL := Lib.hid hl
      clear hl
      have hq0 : r = true ↔ n1.drop 0 = n2.drop 0 := by simpa using HR.out
      have HQ0 := Lib.hid hq0
      clear hq0 HR
      go_enter Try.func16, Try.ntmps16
      go_wp2_with fail
      have hz : (w.alloc (.cells #[.slice A1 n1.length c1, .int .i64 r1] 24)).heap.size = w.heap.size + 1 := by simp
      obtain ⟨wB, hwB⟩ : ∃ wB, wB = (w.alloc (.cells #[.slice A1 n1.length c1, .int .i64 r1] 24)).alloc (.cells #[.slice A2 n2.length c2, .int .i64 r1] 24) := ⟨_, rfl⟩
      have hBz : wB.heap.size = w.heap.size + 2 := by rw [hwB]; simp
      have hb1 : wB.heap[w.heap.size]? = some (.cells #[.slice A1 n1.length c1, .int .i64 r1] 24 (0, 0)) := by
        rw [hwB]; exact (Below.heap_alloc _ _ _ (by simp)).trans (heap_alloc_new w _)
      have hb2 : wB.heap[w.heap.size + 1]? = some (.cells #[.slice A2 n2.length c2, .int .i64 r1] 24 (0, 0)) := by
        rw [hwB, ← hz]; exact heap_alloc_new _ _
      have hcell : ∀ W, Below wB.heap.size wB W → W.cell? ⟨w.heap.size, 0, none⟩ = some (.slice A1 n1.length c1) ∧ W.cell? ⟨w.heap.size + 1, 0, none⟩ = some (.slice A2 n2.length c2) := fun W hW =>
        ⟨cell_of_row W _ 0 _ _ _ ((hW.block _ (by omega)).trans hb1), cell_of_row W _ 0 _ _ _ ((hW.block _ (by omega)).trans hb2)⟩
      have HCB := Lib.hid hcell
      have HBw := Lib.hid (by rw [hwB]; exact ((Below.refl _ w).alloc (Nat.le_refl _) _).alloc (by simp) _ : Below w.heap.size w wB)
      have HBz := Lib.hid hBz
      rw [← hwB]
      clear hb1 hb2 hcell hz hBz hwB
      go_loopw [5, 23] (fun _ i wr => ∃ k : Nat, i = .int .i64 k ∧ k ≤ n1.length ∧ (r = true ↔ n1.drop k = n2.drop k) ∧ Below wB.heap.size wB wr) (fun _ i _ => n1.length - (intOf i).toNat)
      case atStart => exact ⟨0, rfl, Nat.zero_le _, HQ0.out, Below.refl _ _⟩
      case round =>
        obtain ⟨k, rfl, hk, hq, hb⟩ := hrel
        have HQ := Lib.hid hq
        have HB := Lib.hid hb
        have hbw := HBw.out.trans (hb.mono HBw.out.size)
        have HB0 := Lib.hid hbw
        clear hq hb hbw
        by_cases hlt : k < n1.length
        · have hlt2 : k < n2.length := by rw [← HL.out]; exact hlt
          obtain ⟨b1, o1, rfl, p1⟩ := NdsO.get _ _ (NdsO.keep (S' := S1) (fun k hk => ⟨hk, HB0.out.block k (HS1.out k hk)⟩) _ _ HO1.out) k hlt
          obtain ⟨b2, o2, rfl, p2⟩ := NdsO.get _ _ (NdsO.keep (S' := S2) (fun k hk => ⟨hk, HB0.out.block k (HS2.out k hk)⟩) _ _ HO2.out) k hlt2
          have hd := take_drop_eq n1 n2 k hlt hlt2
          obtain ⟨x, hx⟩ : ∃ x, x = n1[k] := ⟨_, rfl⟩
          obtain ⟨y, hy⟩ : ∃ y, y = n2[k] := ⟨_, rfl⟩
          rw [← hx] at p1 hd
          rw [← hy] at p2 hd
          rw [RNd.eq_iff] at hd
          obtain ⟨xA, xB, xL, xM, f0, f1, f2, f3, f4, hxs⟩ := p1.val
          obtain ⟨yA, yB, yL, yM, g0, g1, g2, g3, g4, hys⟩ := p2.val
          obtain ⟨u1, u2, u3, u4, u5, u6, u7, uS⟩ := hxs
          obtain ⟨v1, v2, v3, v4, v5, v6, v7, vS⟩ := hys
          have HD := Lib.hid hd
          obtain ⟨q, hq⟩ : ∃ q : Bool, (q = true ↔ x.alike y) := by
            by_cases h : x.alike y
            · exact ⟨true, by simp [h]⟩
            · exact ⟨false, by simp [h]⟩
          obtain ⟨q2, hq2⟩ : ∃ q2 : Bool, decide (x.args = y.args) = q2 := ⟨_, rfl⟩
          have HQq := Lib.hid hq
          have HQ2 := Lib.hid hq2
          have hS1w : ∀ k, S1 k → k < wr.heap.size := fun k hk => Nat.lt_of_lt_of_le (HS1.out k hk) HB0.out.size
          have hS2w : ∀ k, S2 k → k < wr.heap.size := fun k hk => Nat.lt_of_lt_of_le (HS2.out k hk) HB0.out.size
          have hnx : NdV wr S1 x (.agg #[.int .i64 x.kind, .string x.name, .slice xA x.args.length xB, .slice xL x.labels.length xM, .bool x.op]) := ⟨xA, xB, xL, xM, rfl, u1, u2, u3, u4, u5, u6, u7⟩
          have hny : NdV wr S2 y (.agg #[.int .i64 y.kind, .string y.name, .slice yA y.args.length yB, .slice yL y.labels.length yM, .bool y.op]) := ⟨yA, yB, yL, yM, rfl, v1, v2, v3, v4, v5, v6, v7⟩
          have hal : ∀ W, BelC wr W → Calls Try.prog 37 #[.agg #[.int .i64 x.kind, .string x.name, .slice xA x.args.length xB, .slice xL x.labels.length xM, .bool x.op], .agg #[.int .i64 y.kind, .string y.name, .slice yA y.args.length yB, .slice yL y.labels.length yM, .bool y.op]] W fun e w' => e = .returned (.bool q) ∧ BelC wr w' := fun W hW =>
            (alike_r W S1 S2 x y _ _ q (fun k hk => Nat.lt_of_lt_of_le (hS1w k hk) (Below.size hW)) (fun k hk => Nat.lt_of_lt_of_le (hS2w k hk) (Below.size hW)) (hnx.keep (fun k hk => ⟨hk, Below.block hW k (hS1w k hk)⟩)) (hny.keep (fun k hk => ⟨hk, Below.block hW k (hS2w k hk)⟩)) hq).mono fun _ _ h => ⟨h.1, Below.trans hW (h.2.mono (Below.size hW))⟩
          have hin : ∀ W, BelC wr W → Calls Try.prog 15 #[.slice xA x.args.length xB, .slice yA y.args.length yB] W fun e w' => e = .returned (.bool q2) ∧ BelC wr w' := fun W hW =>
            (ints_r W S1 S2 x.args y.args xA yA xB yB q2 (IntsO.keep (fun k hk => ⟨hk, Below.block hW k (hS1w k hk)⟩) _ _ u6) (IntsO.keep (fun k hk => ⟨hk, Below.block hW k (hS2w k hk)⟩) _ _ v6) u2 u3 v2 v3 hq2).mono fun _ _ h => by
              obtain ⟨h1, n, rfl⟩ := h
              exact ⟨h1, Below.drewN'' hW n⟩
          have HAl := Lib.hid hal
          have HIn := Lib.hid hin
          have hcell : ∀ W, BelC wr W → W.cell? ⟨w.heap.size, 0, none⟩ = some (.slice (some ⟨b1, o1, none⟩) n1.length c1) ∧ W.cell? ⟨w.heap.size + 1, 0, none⟩ = some (.slice (some ⟨b2, o2, none⟩) n2.length c2) ∧ W.cell? ⟨b1, o1 + k * 5, none⟩ = some (.int .i64 x.kind) ∧ W.cell? ⟨b1, o1 + k * 5 + 1, none⟩ = some (.string x.name) ∧ W.cell? ⟨b1, o1 + k * 5 + 2, none⟩ = some (.slice xA x.args.length xB) ∧ W.cell? ⟨b1, o1 + k * 5 + 3, none⟩ = some (.slice xL x.labels.length xM) ∧ W.cell? ⟨b1, o1 + k * 5 + 4, none⟩ = some (.bool x.op) ∧ W.cell? ⟨b2, o2 + k * 5, none⟩ = some (.int .i64 y.kind) ∧ W.cell? ⟨b2, o2 + k * 5 + 1, none⟩ = some (.string y.name) ∧ W.cell? ⟨b2, o2 + k * 5 + 2, none⟩ = some (.slice yA y.args.length yB) ∧ W.cell? ⟨b2, o2 + k * 5 + 3, none⟩ = some (.slice yL y.labels.length yM) ∧ W.cell? ⟨b2, o2 + k * 5 + 4, none⟩ = some (.bool y.op) := fun W hW =>
            ⟨(HCB.out W (HB.out.trans (Below.mono hW HB.out.size))).1, (HCB.out W (HB.out.trans (Below.mono hW HB.out.size))).2, hW.old f0, hW.old f1, hW.old f2, hW.old f3, hW.old f4, hW.old g0, hW.old g1, hW.old g2, hW.old g3, hW.old g4⟩
          have HC := Lib.hid hcell
          have hx0 := HC.out wr (BelC.refl _)
          clear hcell hal hin hnx hny hS1w hS2w hq hq2 u1 u2 u3 u4 u5 u6 u7 uS v1 v2 v3 v4 v5 v6 v7 vS f0 f1 f2 f3 f4 g0 g1 g2 g3 g4 hd hx hy p1 p2
          cases q with
          | true =>
            have hta : x.alike y := HQq.out.1 rfl
            have HTa := Lib.hid hta
            clear hta
            go_wp2_with fail
            go_region_held3 (fun W => W.cell? ⟨w.heap.size, 0, none⟩ = some (.slice (some ⟨b1, o1, none⟩) n1.length c1) ∧ W.cell? ⟨w.heap.size + 1, 0, none⟩ = some (.slice (some ⟨b2, o2, none⟩) n2.length c2) ∧ W.cell? ⟨b1, o1 + k * 5, none⟩ = some (.int .i64 x.kind) ∧ W.cell? ⟨b1, o1 + k * 5 + 1, none⟩ = some (.string x.name) ∧ W.cell? ⟨b1, o1 + k * 5 + 2, none⟩ = some (.slice xA x.args.length xB) ∧ W.cell? ⟨b1, o1 + k * 5 + 3, none⟩ = some (.slice xL x.labels.length xM) ∧ W.cell? ⟨b1, o1 + k * 5 + 4, none⟩ = some (.bool x.op) ∧ W.cell? ⟨b2, o2 + k * 5, none⟩ = some (.int .i64 y.kind) ∧ W.cell? ⟨b2, o2 + k * 5 + 1, none⟩ = some (.string y.name) ∧ W.cell? ⟨b2, o2 + k * 5 + 2, none⟩ = some (.slice yA y.args.length yB) ∧ W.cell? ⟨b2, o2 + k * 5 + 3, none⟩ = some (.slice yL y.labels.length yM) ∧ W.cell? ⟨b2, o2 + k * 5 + 4, none⟩ = some (.bool y.op))
              (first | exact hx0 | (refine HC.out _ ?_; (· (repeat (first | assumption | exact BelC.refl _ | refine BelC.alloc ?_ _ | refine BelC.drew ?_)))))
              (first | (go_at_call 37; with_reducible refine (HAl.out _ ?_).mono ?_; (· (repeat (first | assumption | exact BelC.refl _ | refine BelC.alloc ?_ _ | refine BelC.drew ?_))); rintro e w' ⟨rfl, hb2⟩) | (go_at_call 15; with_reducible refine (HIn.out _ ?_).mono ?_; (· (repeat (first | assumption | exact BelC.refl _ | refine BelC.alloc ?_ _ | refine BelC.drew ?_))); rintro e w' ⟨rfl, hb3⟩))

            cases q2 with
            | true =>
              have hst : x.args = y.args := of_decide_eq_true HQ2.out
              have HSt := Lib.hid hst
              clear hst
              go_wp2
              go_roundw
              case rel => exact ⟨k + 1, by go_num, by omega, ⟨fun h => (HD.out.1 (HQ.out.1 h)).2, fun h => HQ.out.2 (HD.out.2 ⟨⟨HTa.out, HSt.out⟩, h⟩)⟩, HB.out.trans (Below.mono hb3 HB.out.size)⟩
              case measure => simp [intOf]; omega
            | false =>
              have hrr : r = false := by
                cases r with
                | false => rfl
                | true => exact absurd (HD.out.1 (HQ.out.1 rfl)).1.2 (of_decide_eq_false HQ2.out)
              subst hrr
              go_wp2
              go_ret
              exact ⟨rfl, HB0.out.trans (Below.mono hb3 HB0.out.size)⟩
          | false =>
            have hrr : r = false := by
              cases r with
              | false => rfl
              | true => exact absurd (HQq.out.2 (HD.out.1 (HQ.out.1 rfl)).1.1) (by simp)
            subst hrr
            go_wp2_with fail
            refine wp_region_noPanic ?_
            refine wp_region_held_drew (S := (fun W => W.cell? ⟨w.heap.size, 0, none⟩ = some (.slice (some ⟨b1, o1, none⟩) n1.length c1) ∧ W.cell? ⟨w.heap.size + 1, 0, none⟩ = some (.slice (some ⟨b2, o2, none⟩) n2.length c2) ∧ W.cell? ⟨b1, o1 + k * 5, none⟩ = some (.int .i64 x.kind) ∧ W.cell? ⟨b1, o1 + k * 5 + 1, none⟩ = some (.string x.name) ∧ W.cell? ⟨b1, o1 + k * 5 + 2, none⟩ = some (.slice xA x.args.length xB) ∧ W.cell? ⟨b1, o1 + k * 5 + 3, none⟩ = some (.slice xL x.labels.length xM) ∧ W.cell? ⟨b1, o1 + k * 5 + 4, none⟩ = some (.bool x.op) ∧ W.cell? ⟨b2, o2 + k * 5, none⟩ = some (.int .i64 y.kind) ∧ W.cell? ⟨b2, o2 + k * 5 + 1, none⟩ = some (.string y.name) ∧ W.cell? ⟨b2, o2 + k * 5 + 2, none⟩ = some (.slice yA y.args.length yB) ∧ W.cell? ⟨b2, o2 + k * 5 + 3, none⟩ = some (.slice yL y.labels.length yM) ∧ W.cell? ⟨b2, o2 + k * 5 + 4, none⟩ = some (.bool y.op))) (by kernel_rfl) ?_ (fun hHeld => ?_)
            · (try dsimp only); (first | exact hx0 | (refine HC.out _ ?_; (· (repeat (first | assumption | exact BelC.refl _ | refine BelC.alloc ?_ _ | refine BelC.drew ?_)))))
            refine wpAnyH_take (i := 0) (oi := { dst := some 26, op := Op.fieldAddr 24 (Operand.tmp 2) 0, type := 0, pos := "ref.go:168", after := #[], guard := none }) (v := ?_) rfl (by kernel_rfl) (by kernel_rfl) (by kernel_rfl) (fun _ _ _ h => h) (Or.inl ⟨by rfl, ?_⟩) (by assumption) ?_
            rotate_left
            · intro w hSw; (try dsimp only at hSw); go_simp; (try with_reducible rfl)
            try simp only [Act.put, List.setIfInBounds_toArray, List.set_cons_zero, List.set_cons_succ]
            refine wpAnyH_take (i := 1) (oi := { dst := some 27, op := Op.load 22 (Operand.tmp 26), type := 22, pos := "ref.go:168", after := #[{ on := 0, ground := Ground.data }], guard := none }) (v := ?_) rfl (by kernel_rfl) (by kernel_rfl) (by kernel_rfl) (fun _ _ _ h => h) (Or.inl ⟨by rfl, ?_⟩) (by assumption) ?_
            rotate_left
            · intro w hSw; (try dsimp only at hSw); go_simp; (try with_reducible rfl)
            try simp only [Act.put, List.setIfInBounds_toArray, List.set_cons_zero, List.set_cons_succ]
            refine wpAnyH_take (i := 2) (oi := { dst := some 28, op := Op.move (Operand.tmp 5), type := 3, pos := "ref.go:168", after := #[], guard := none }) (v := ?_) rfl (by kernel_rfl) (by kernel_rfl) (by kernel_rfl) (fun _ _ _ h => h) (Or.inl ⟨by rfl, ?_⟩) (by assumption) ?_
            rotate_left
            · intro w hSw; (try dsimp only at hSw); go_simp; (try with_reducible rfl)
            try simp only [Act.put, List.setIfInBounds_toArray, List.set_cons_zero, List.set_cons_succ]
            refine wpAnyH_take (i := 3) (oi := { dst := some 29, op := Op.indexAddr 22 (Operand.tmp 27) (Operand.tmp 28), type := 0, pos := "ref.go:168", after := #[{ on := 1, ground := Ground.data }, { on := 2, ground := Ground.data }], guard := none }) (v := ?_) rfl (by kernel_rfl) (by kernel_rfl) (by kernel_rfl) (fun _ _ _ h => h) (Or.inl ⟨by rfl, ?_⟩) (by assumption) ?_
            rotate_left
            · intro w hSw; (try dsimp only at hSw); go_simp; (try with_reducible rfl)
            try simp only [Act.put, List.setIfInBounds_toArray, List.set_cons_zero, List.set_cons_succ]
            refine wpAnyH_take (i := 4) (oi := { dst := some 30, op := Op.load 37 (Operand.tmp 29), type := 37, pos := "ref.go:168", after := #[{ on := 3, ground := Ground.data }], guard := none }) (v := ?_) rfl (by kernel_rfl) (by kernel_rfl) (by kernel_rfl) (fun _ _ _ h => h) (Or.inl ⟨by rfl, ?_⟩) (by assumption) ?_
            rotate_left
            · intro w hSw; (try dsimp only at hSw); go_simp; (try with_reducible rfl)
            try simp only [Act.put, List.setIfInBounds_toArray, List.set_cons_zero, List.set_cons_succ]
            refine wpAnyH_take (i := 5) (oi := { dst := some 31, op := Op.fieldAddr 24 (Operand.tmp 3) 0, type := 0, pos := "ref.go:168", after := #[], guard := none }) (v := ?_) rfl (by kernel_rfl) (by kernel_rfl) (by kernel_rfl) (fun _ _ _ h => h) (Or.inl ⟨by rfl, ?_⟩) (by assumption) ?_
            rotate_left
            · intro w hSw; (try dsimp only at hSw); go_simp; (try with_reducible rfl)
            try simp only [Act.put, List.setIfInBounds_toArray, List.set_cons_zero, List.set_cons_succ]
            refine wpAnyH_take (i := 6) (oi := { dst := some 32, op := Op.load 22 (Operand.tmp 31), type := 22, pos := "ref.go:168", after := #[{ on := 5, ground := Ground.data }], guard := none }) (v := ?_) rfl (by kernel_rfl) (by kernel_rfl) (by kernel_rfl) (fun _ _ _ h => h) (Or.inl ⟨by rfl, ?_⟩) (by assumption) ?_
            rotate_left
            · intro w hSw; (try dsimp only at hSw); go_simp; (try with_reducible rfl)
            try simp only [Act.put, List.setIfInBounds_toArray, List.set_cons_zero, List.set_cons_succ]
            refine wpAnyH_take (i := 7) (oi := { dst := some 33, op := Op.move (Operand.tmp 5), type := 3, pos := "ref.go:168", after := #[], guard := none }) (v := ?_) rfl (by kernel_rfl) (by kernel_rfl) (by kernel_rfl) (fun _ _ _ h => h) (Or.inl ⟨by rfl, ?_⟩) (by assumption) ?_
            rotate_left
            · intro w hSw; (try dsimp only at hSw); go_simp; (try with_reducible rfl)
            try simp only [Act.put, List.setIfInBounds_toArray, List.set_cons_zero, List.set_cons_succ]
            refine wpAnyH_take (i := 8) (oi := { dst := some 34, op := Op.indexAddr 22 (Operand.tmp 32) (Operand.tmp 33), type := 0, pos := "ref.go:168", after := #[{ on := 6, ground := Ground.data }, { on := 7, ground := Ground.data }], guard := none }) (v := ?_) rfl (by kernel_rfl) (by kernel_rfl) (by kernel_rfl) (fun _ _ _ h => h) (Or.inl ⟨by rfl, ?_⟩) (by assumption) ?_
            rotate_left
            · intro w hSw; (try dsimp only at hSw); go_simp; (try with_reducible rfl)
            try simp only [Act.put, List.setIfInBounds_toArray, List.set_cons_zero, List.set_cons_succ]
            refine wpAnyH_take (i := 9) (oi := { dst := some 35, op := Op.load 37 (Operand.tmp 34), type := 37, pos := "ref.go:168", after := #[{ on := 8, ground := Ground.data }], guard := none }) (v := ?_) rfl (by kernel_rfl) (by kernel_rfl) (by kernel_rfl) (fun _ _ _ h => h) (Or.inl ⟨by rfl, ?_⟩) (by assumption) ?_
            rotate_left
            · intro w hSw; (try dsimp only at hSw); go_simp; (try with_reducible rfl)
            try simp only [Act.put, List.setIfInBounds_toArray, List.set_cons_zero, List.set_cons_succ]
            refine wpAnyH_ready (rs := [10]) (by kernel_rfl) (by simp) ?_
            refine AllReadyH.cons (o := { dst := some 36, op := Op.call { callee := Callee.value (Operand.func 37), args := #[Operand.tmp 30, Operand.tmp 35], argTypes := #[37, 37] }, type := 4, pos := "ref.go:168", after := #[{ on := 4, ground := Ground.data }, { on := 9, ground := Ground.data }], guard := none }) rfl (fun K hK => ?_) AllReadyH.nil
            go_simp
            go_at_call 37; with_reducible refine (HAl.out _ ?_).mono ?_; (· (repeat (first | assumption | exact BelC.refl _ | refine BelC.alloc ?_ _ | refine BelC.drew ?_))); rintro e w' ⟨rfl, hb2⟩
            go_wp2_with fail
            refine hK.out _ _ ?_ (fun hHeld => ?_)
            · (try dsimp only); (first | exact hx0 | (refine HC.out _ ?_; (· (repeat (first | assumption | exact BelC.refl _ | refine BelC.alloc ?_ _ | refine BelC.drew ?_)))))
            clear hK K
            try simp only [Act.put, List.setIfInBounds_toArray, List.set_cons_zero, List.set_cons_succ]
            refine wpAnyH_take (i := 11) (oi := { dst := some 37, op := Op.unOp UnOp.not 4 (Operand.tmp 36), type := 4, pos := "ref.go:168", after := #[{ on := 10, ground := Ground.data }], guard := none }) (v := ?_) rfl (by kernel_rfl) (by kernel_rfl) (by kernel_rfl) (fun _ _ _ h => h) (Or.inl ⟨by rfl, ?_⟩) (by assumption) ?_
            rotate_left
            · intro w hSw; (try dsimp only at hSw); go_simp; (try with_reducible rfl)
            try simp only [Act.put, List.setIfInBounds_toArray, List.set_cons_zero, List.set_cons_succ]
            refine wpAnyH_take (i := 12) (oi := { dst := some 38, op := Op.move (Operand.tmp 37), type := 4, pos := "ref.go:168", after := #[{ on := 11, ground := Ground.data }, { on := 10, ground := Ground.chain }], guard := none }) (v := ?_) rfl (by kernel_rfl) (by kernel_rfl) (by kernel_rfl) (fun _ _ _ h => h) (Or.inl ⟨by rfl, ?_⟩) (by assumption) ?_
            rotate_left
            · intro w hSw; (try dsimp only at hSw); go_simp; (try with_reducible rfl)
            try simp only [Act.put, List.setIfInBounds_toArray, List.set_cons_zero, List.set_cons_succ]
            refine wpAnyH_take (i := 13) (oi := { dst := some 39, op := Op.fieldAddr 24 (Operand.tmp 2) 0, type := 0, pos := "ref.go:168", after := #[{ on := 12, ground := Ground.guard }], guard := some (12, false) }) (v := undef) rfl (by kernel_rfl) (by kernel_rfl) (by kernel_rfl) (fun _ _ _ h => h) (Or.inr ⟨by rfl, rfl⟩) (by assumption) ?_
            try simp only [Act.put, List.setIfInBounds_toArray, List.set_cons_zero, List.set_cons_succ]
            refine wpAnyH_take (i := 14) (oi := { dst := some 40, op := Op.load 22 (Operand.tmp 39), type := 22, pos := "ref.go:168", after := #[{ on := 13, ground := Ground.data }, { on := 12, ground := Ground.guard }], guard := some (12, false) }) (v := undef) rfl (by kernel_rfl) (by kernel_rfl) (by kernel_rfl) (fun _ _ _ h => h) (Or.inr ⟨by rfl, rfl⟩) (by assumption) ?_
            try simp only [Act.put, List.setIfInBounds_toArray, List.set_cons_zero, List.set_cons_succ]
            refine wpAnyH_take (i := 15) (oi := { dst := some 41, op := Op.move (Operand.tmp 5), type := 3, pos := "ref.go:168", after := #[{ on := 12, ground := Ground.guard }], guard := some (12, false) }) (v := undef) rfl (by kernel_rfl) (by kernel_rfl) (by kernel_rfl) (fun _ _ _ h => h) (Or.inr ⟨by rfl, rfl⟩) (by assumption) ?_
            try simp only [Act.put, List.setIfInBounds_toArray, List.set_cons_zero, List.set_cons_succ]
            refine wpAnyH_take (i := 16) (oi := { dst := some 42, op := Op.indexAddr 22 (Operand.tmp 40) (Operand.tmp 41), type := 0, pos := "ref.go:168", after := #[{ on := 14, ground := Ground.data }, { on := 15, ground := Ground.data }, { on := 12, ground := Ground.guard }], guard := some (12, false) }) (v := undef) rfl (by kernel_rfl) (by kernel_rfl) (by kernel_rfl) (fun _ _ _ h => h) (Or.inr ⟨by rfl, rfl⟩) (by assumption) ?_
            try simp only [Act.put, List.setIfInBounds_toArray, List.set_cons_zero, List.set_cons_succ]
            refine wpAnyH_take (i := 17) (oi := { dst := some 43, op := Op.fieldAddr 37 (Operand.tmp 42) 2, type := 0, pos := "ref.go:168", after := #[{ on := 16, ground := Ground.data }, { on := 12, ground := Ground.guard }], guard := some (12, false) }) (v := undef) rfl (by kernel_rfl) (by kernel_rfl) (by kernel_rfl) (fun _ _ _ h => h) (Or.inr ⟨by rfl, rfl⟩) (by assumption) ?_
            try simp only [Act.put, List.setIfInBounds_toArray, List.set_cons_zero, List.set_cons_succ]
            refine wpAnyH_take (i := 18) (oi := { dst := some 44, op := Op.load 25 (Operand.tmp 43), type := 25, pos := "ref.go:168", after := #[{ on := 17, ground := Ground.data }, { on := 12, ground := Ground.guard }], guard := some (12, false) }) (v := undef) rfl (by kernel_rfl) (by kernel_rfl) (by kernel_rfl) (fun _ _ _ h => h) (Or.inr ⟨by rfl, rfl⟩) (by assumption) ?_
            try simp only [Act.put, List.setIfInBounds_toArray, List.set_cons_zero, List.set_cons_succ]
            refine wpAnyH_take (i := 19) (oi := { dst := some 45, op := Op.fieldAddr 24 (Operand.tmp 3) 0, type := 0, pos := "ref.go:168", after := #[{ on := 12, ground := Ground.guard }], guard := some (12, false) }) (v := undef) rfl (by kernel_rfl) (by kernel_rfl) (by kernel_rfl) (fun _ _ _ h => h) (Or.inr ⟨by rfl, rfl⟩) (by assumption) ?_
            try simp only [Act.put, List.setIfInBounds_toArray, List.set_cons_zero, List.set_cons_succ]
            refine wpAnyH_take (i := 20) (oi := { dst := some 46, op := Op.load 22 (Operand.tmp 45), type := 22, pos := "ref.go:168", after := #[{ on := 19, ground := Ground.data }, { on := 12, ground := Ground.guard }], guard := some (12, false) }) (v := undef) rfl (by kernel_rfl) (by kernel_rfl) (by kernel_rfl) (fun _ _ _ h => h) (Or.inr ⟨by rfl, rfl⟩) (by assumption) ?_
            try simp only [Act.put, List.setIfInBounds_toArray, List.set_cons_zero, List.set_cons_succ]
            refine wpAnyH_take (i := 21) (oi := { dst := some 47, op := Op.move (Operand.tmp 5), type := 3, pos := "ref.go:168", after := #[{ on := 12, ground := Ground.guard }], guard := some (12, false) }) (v := undef) rfl (by kernel_rfl) (by kernel_rfl) (by kernel_rfl) (fun _ _ _ h => h) (Or.inr ⟨by rfl, rfl⟩) (by assumption) ?_
            try simp only [Act.put, List.setIfInBounds_toArray, List.set_cons_zero, List.set_cons_succ]
            refine wpAnyH_take (i := 22) (oi := { dst := some 48, op := Op.indexAddr 22 (Operand.tmp 46) (Operand.tmp 47), type := 0, pos := "ref.go:168", after := #[{ on := 20, ground := Ground.data }, { on := 21, ground := Ground.data }, { on := 12, ground := Ground.guard }], guard := some (12, false) }) (v := undef) rfl (by kernel_rfl) (by kernel_rfl) (by kernel_rfl) (fun _ _ _ h => h) (Or.inr ⟨by rfl, rfl⟩) (by assumption) ?_
            try simp only [Act.put, List.setIfInBounds_toArray, List.set_cons_zero, List.set_cons_succ]
            refine wpAnyH_take (i := 23) (oi := { dst := some 49, op := Op.fieldAddr 37 (Operand.tmp 48) 2, type := 0, pos := "ref.go:168", after := #[{ on := 22, ground := Ground.data }, { on := 12, ground := Ground.guard }], guard := some (12, false) }) (v := undef) rfl (by kernel_rfl) (by kernel_rfl) (by kernel_rfl) (fun _ _ _ h => h) (Or.inr ⟨by rfl, rfl⟩) (by assumption) ?_
            try simp only [Act.put, List.setIfInBounds_toArray, List.set_cons_zero, List.set_cons_succ]
            refine wpAnyH_take (i := 24) (oi := { dst := some 50, op := Op.load 25 (Operand.tmp 49), type := 25, pos := "ref.go:168", after := #[{ on := 23, ground := Ground.data }, { on := 12, ground := Ground.guard }], guard := some (12, false) }) (v := undef) rfl (by kernel_rfl) (by kernel_rfl) (by kernel_rfl) (fun _ _ _ h => h) (Or.inr ⟨by rfl, rfl⟩) (by assumption) ?_
            try simp only [Act.put, List.setIfInBounds_toArray, List.set_cons_zero, List.set_cons_succ]
            refine wpAnyH_take (i := 25) (oi := { dst := some 51, op := Op.call { callee := Callee.value (Operand.func 15), args := #[Operand.tmp 44, Operand.tmp 50], argTypes := #[25, 25] }, type := 4, pos := "ref.go:168", after := #[{ on := 18, ground := Ground.data }, { on := 24, ground := Ground.data }, { on := 12, ground := Ground.chain }, { on := 12, ground := Ground.guard }], guard := some (12, false) }) (v := undef) rfl (by kernel_rfl) (by kernel_rfl) (by kernel_rfl) (fun _ _ _ h => h) (Or.inr ⟨by rfl, rfl⟩) (by assumption) ?_
            try simp only [Act.put, List.setIfInBounds_toArray, List.set_cons_zero, List.set_cons_succ]
            refine wpAnyH_take (i := 26) (oi := { dst := some 52, op := Op.unOp UnOp.not 4 (Operand.tmp 51), type := 4, pos := "ref.go:168", after := #[{ on := 25, ground := Ground.data }, { on := 12, ground := Ground.guard }], guard := some (12, false) }) (v := undef) rfl (by kernel_rfl) (by kernel_rfl) (by kernel_rfl) (fun _ _ _ h => h) (Or.inr ⟨by rfl, rfl⟩) (by assumption) ?_
            try simp only [Act.put, List.setIfInBounds_toArray, List.set_cons_zero, List.set_cons_succ]
            refine wpAnyH_take (i := 27) (oi := { dst := some 53, op := Op.pick (Operand.tmp 38) (Operand.const (Value.bool true)) (Operand.tmp 52), type := 4, pos := "ref.go:168", after := #[{ on := 12, ground := Ground.data }, { on := 26, ground := Ground.data }], guard := none }) (v := ?_) rfl (by kernel_rfl) (by kernel_rfl) (by kernel_rfl) (fun _ _ _ h => h) (Or.inl ⟨by rfl, ?_⟩) (by assumption) ?_
            rotate_left
            · intro w hSw; (try dsimp only at hSw); go_simp; (try with_reducible rfl)
            try simp only [Act.put, List.setIfInBounds_toArray, List.set_cons_zero, List.set_cons_succ]
            refine wpAnyH_done (by kernel_rfl) ?_ _
            refine NoPanic.normal ?_

            go_wp2
            go_ret
            exact ⟨rfl, HB0.out.trans (Below.mono hb2 HB0.out.size)⟩
        · have hk' : k = n1.length := by omega
          have hrr : r = true := HQ.out.2 (by rw [hk', List.drop_length, HL.out, List.drop_length])
          subst hrr
          clear hk'
          go_wp2
          go_ret
          exact ⟨rfl, HB0.out⟩
    · have hne : ((n1.length : Int) != (n2.length : Int)) = true := by rw [bne_iff_ne]; omega
      have hrr : r = false := by
        cases r with
        | false => rfl
        | true => exact absurd (congrArg List.length (HR.out.1 rfl).1) hl
      subst hrr
      go_enter Try.func16, Try.ntmps16
      go_wp2
      go_ret
      exact ⟨rfl, ((Below.refl _ _).alloc (Nat.le_refl _) _).alloc (by simp) _⟩
  · have hrr : r = false := by
      cases r with
      | false => rfl
      | true => exact absurd (HR.out.1 rfl).2 h0
    subst hrr
    have hne : (r1 != r2) = true := by rw [bne_iff_ne]; exact h0
    go_enter Try.func16, Try.ntmps16
    go_wp2
    go_ret
    exact ⟨rfl, ((Below.refl _ _).alloc (Nat.le_refl _) _).alloc (by simp) _⟩
end Go.Proofs.Ytnhdgndjpkdhdaa
