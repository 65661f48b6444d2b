/-
  trefoillaw02.TreeParts: the walk.
-/
import Derived.Test.YthgbldkcgfggfaaParts
namespace Go.Proofs.Ythgbldkcgfggfaa
open Go.RowKit

theorem ExV.parts {w : World} {S : Nat → Prop} {x : Ex} {ka na : Int} {sa : ByteArray} {aA aN aT aM : Option Addr} {nA cA nN cN nT cT nM cM : Nat} (h : ExV w S x (.agg #[.int .i64 ka, .string sa, .int .i64 na, .slice aA nA cA, .slice aN nN cN, .slice aT nT cT, .slice aM nM cM])) :
    nA = x.args.length ∧ nA ≤ cA ∧ cA ≤ maxLen ∧ ExsO w S x.args aA ∧ nM = x.mems.length ∧ nM ≤ cM ∧ cM ≤ maxLen ∧ MmsO w S x.mems aM := by
  cases x
  unfold ExV at h
  obtain ⟨bA, dA, bN, dN, bT, dT, bM, dM, e, h0, h1, h2, h3, h4, h5, h6, h7, h8, g1, g2, g3, g4⟩ := h
  simp only [Value.agg.injEq, Array.mk.injEq, List.cons.injEq, Value.slice.injEq] at e
  obtain ⟨rfl, rfl, rfl⟩ := e.2.2.2.1
  obtain ⟨rfl, rfl, rfl⟩ := e.2.2.2.2.2.2.1
  exact ⟨rfl, h1, h2, g1, rfl, h7, h8, g4⟩
theorem MmV.parts {w : World} {S : Nat → Prop} {x : Mm} {k : Int} {s1 s2 : ByteArray} {aA aT : Option Addr} {nA cA nT cT : Nat} (h : MmV w S x (.agg #[.int .i64 k, .string s1, .string s2, .slice aA nA cA, .slice aT nT cT])) :
    nA = x.args.length ∧ nA ≤ cA ∧ cA ≤ maxLen ∧ ExsO w S x.args aA := by
  cases x
  unfold MmV at h
  obtain ⟨bA, dA, bT, dT, e, h0, h1, h2, h3, h4, h5, g1, g2⟩ := h
  simp only [Value.agg.injEq, Array.mk.injEq, List.cons.injEq, Value.slice.injEq] at e
  obtain ⟨rfl, rfl, rfl⟩ := e.2.2.2.1
  exact ⟨rfl, h2, h3, g1⟩
section
variable {wB W : World} {x : Ex} {ka na : Int} {sa : ByteArray} {aA aN aT aM : Option Addr} {nA cA nN cN nT cT nM cM : Nat}
theorem sizeE (hx : ExV wB (fun k => k < wB.heap.size) x (.agg #[.int .i64 ka, .string sa, .int .i64 na, .slice aA nA cA, .slice aN nN cN, .slice aT nT cT, .slice aM nM cM])) (hN : x.size ≤ 1000000) (r : Int) (hr : (x.size : Int) = r) (hb : BelC wB W) :
    Calls Try.prog 14 #[.agg #[.int .i64 ka, .string sa, .int .i64 na, .slice aA nA cA, .slice aN nN cN, .slice aT nT cT, .slice aM nM cM]] W fun e w' => e = .returned (.int .i64 r) ∧ BelC wB w' :=
  (size_any W (fun k => k < W.heap.size) x _ (fun _ h => h) (ExV.later hb hx) hN).mono fun _ _ h => ⟨by rw [← hr]; exact h.1, Below.trans hb (h.2.mono hb.size)⟩
theorem deepE' (hx : ExV wB (fun k => k < wB.heap.size) x (.agg #[.int .i64 ka, .string sa, .int .i64 na, .slice aA nA cA, .slice aN nN cN, .slice aT nT cT, .slice aM nM cM])) (hN : x.size ≤ 1000000) (r : Int) (hr : (x.deep : Int) = r) (hb : BelC wB W) :
    Calls Try.prog 16 #[.agg #[.int .i64 ka, .string sa, .int .i64 na, .slice aA nA cA, .slice aN nN cN, .slice aT nT cT, .slice aM nM cM]] W fun e w' => e = .returned (.int .i64 r) ∧ BelC wB w' :=
  (deepE hx hN hb).mono fun _ _ h => ⟨by rw [← hr]; exact h.1, h.2⟩
theorem valueE (hx : ExV wB (fun k => k < wB.heap.size) x (.agg #[.int .i64 ka, .string sa, .int .i64 na, .slice aA nA cA, .slice aN nN cN, .slice aT nT cT, .slice aM nM cM])) (hN : x.size ≤ 1000000) (r : Bool) (hr : x.value = r) (hb : BelC wB W) :
    Calls Try.prog 18 #[.agg #[.int .i64 ka, .string sa, .int .i64 na, .slice aA nA cA, .slice aN nN cN, .slice aT nT cT, .slice aM nM cM]] W fun e w' => e = .returned (.bool r) ∧ BelC wB w' :=
  (value_any W (fun k => k < W.heap.size) x _ (fun _ h => h) (ExV.later hb hx) hN).mono fun _ _ h => ⟨by rw [← hr]; exact h.1, Below.trans hb (h.2.mono hb.size)⟩
end

set_option maxRecDepth 100000 in
set_option maxHeartbeats 4000000 in
theorem parts_main (w : World) (S : Nat → Prop) (l : List Part) (A1 : Option Addr) (c1 : Nat) (hS : ∀ k, S k → k < w.heap.size) (hl : PtsO w S l A1) (hlc : l.length ≤ c1) (hc1 : c1 ≤ 10000000000000) (hg1 : greatB l = false) :
    Calls Try.prog 5 #[.slice A1 l.length c1] w fun e w' => e = .returned (.bool true) ∧ Below w.heap.size w w' := by
  have HS := Lib.hid hS
  have HL := Lib.hid hl
  have HG1 := Lib.hid hg1
  clear hl hS hg1
  go_enter Try.func5, Try.ntmps5
  go_wp2_with fail
  refine (alive_any w).mono ?_
  rintro e w1 ⟨rfl, hb1⟩
  have HB1 := Lib.hid hb1
  clear hb1
  go_wp2_with fail
  obtain ⟨p1, p2⟩ := pts_later HS.out HB1.out HL.out
  refine (great_r w1 S l A1 c1 false p1 p2 hlc hc1 HG1.out).mono ?_
  rintro e w2 ⟨rfl, hb2⟩
  have HB2 := Lib.hid (HB1.out.trans (hb2.mono HB1.out.size))
  clear hb2 p1 p2
  go_wp2_with fail
  obtain ⟨p1, p2⟩ := pts_later HS.out HB2.out HL.out
  refine (of_any l w2 S A1 c1 p1 p2 hlc hc1).mono ?_
  rintro e w3 ⟨va, ua, rfl, hva, hb3⟩
  obtain ⟨ka, sa, na, aA, nA, cA, aN, nN, cN, aT, nT, cT, aM, nM, cM, rfl⟩ := hva.form
  have HVA := Lib.hid hva
  have HB3 := Lib.hid (HB2.out.trans (hb3.mono HB2.out.size))
  clear hb3 p1 p2 hva
  have hN1 : (ofE l).size ≤ 1200 ∧ (ofE l).tsize ≤ 1400 := by
    have h1 := ofE_small l
    have h2 := HG1.out
    simp [greatB] at h2
    omega
  obtain ⟨E, hE⟩ : ∃ E, E = ofE l := ⟨_, rfl⟩
  rw [← hE] at HVA hN1
  clear hE
  obtain ⟨wB, hwB⟩ : ∃ wB, wB = w3.alloc (.cells #[.int .i64 ka, .string sa, .int .i64 na, .slice aA nA cA, .slice aN nN cN, .slice aT nT cT, .slice aM nM cM] 31) := ⟨_, rfl⟩
  have hBz : wB.heap.size = w3.heap.size + 1 := by rw [hwB]; simp
  have hBA : wB.heap[w3.heap.size]? = some (.cells #[.int .i64 ka, .string sa, .int .i64 na, .slice aA nA cA, .slice aN nN cN, .slice aT nT cT, .slice aM nM cM] 31 (0, 0)) := by
    rw [hwB]; exact heap_at _ _ _ rfl
  have hBw : Below w.heap.size w wB := by
    rw [hwB]; exact HB3.out.alloc HB3.out.size _
  have hVA : ExV wB (fun k => k < wB.heap.size) E (.agg #[.int .i64 ka, .string sa, .int .i64 na, .slice aA nA cA, .slice aN nN cN, .slice aT nT cT, .slice aM nM cM]) := by
    refine ExV.keep (fun k hk => ⟨by have := hk.2; omega, ?_⟩) _ _ HVA.out
    rw [hwB]; exact heap_past _ _ _ hk.2
  have hcell : ∀ W, BelC wB W → ∀ j, W.cell? ⟨w3.heap.size, j, none⟩ = (#[.int .i64 ka, .string sa, .int .i64 na, .slice aA nA cA, .slice aN nN cN, .slice aT nT cT, .slice aM nM cM] : Array Value)[j]? := fun W hW =>
    blk_cell ((hW.block _ (by omega)).trans hBA)
  clear HVA
  have HVA := Lib.hid hVA
  have HC := Lib.hid hcell
  have HBw := Lib.hid hBw
  obtain ⟨BA, hBA'⟩ : ∃ BA, BA = w3.heap.size := ⟨_, rfl⟩
  have HBa := Lib.hid (by omega : BA < wB.heap.size)
  have hA0 := hcell wB (BelC.refl _)
  rw [← hBA'] at HC hA0
  obtain ⟨e0, e1, e2, e3, e4, e5, e6⟩ := (⟨hA0 0, hA0 1, hA0 2, hA0 3, hA0 4, hA0 5, hA0 6⟩ : _ ∧ _ ∧ _ ∧ _ ∧ _ ∧ _ ∧ _)
  go_upto_region 6 with fail
  rw [← hwB, ← hBA']
  clear hwB hBA hBw hVA hcell HB3 HB2 HB1 hBz hBA' hA0
  obtain ⟨cx, hcx⟩ : ∃ c, c = checkCode E := ⟨_, rfl⟩
  go_wp2_with fail
  refine (chkE (wB := wB) HVA.out (by omega) (by omega) cx hcx.symm (BelC.refl _)).mono ?_
  rintro e w4 ⟨rfl, hb4⟩
  have hpx := check_codes E
  rw [← hcx] at hpx
  rcases hpx with rfl | rfl | rfl
  rotate_left
  · go_wp2_with fail
    go_ret
    exact ⟨rfl, HBw.out.trans (Below.mono hb4 HBw.out.size)⟩
  · go_wp2_with fail
    go_ret
    exact ⟨rfl, HBw.out.trans (Below.mono hb4 HBw.out.size)⟩
  have HCode := Lib.hid hcx.symm
  clear hcx e0 e1 e2 e3 e4 e5 e6
  obtain ⟨rfl, hA1, hA2, hA3, rfl, hM1, hM2, hM3⟩ := ExV.parts HVA.out
  have HAr := Lib.hid hA3
  have HMm := Lib.hid hM3
  unfold maxLen at hA2 hM2
  clear hA3 hM3
  have hA0 := HC.out w4 hb4
  obtain ⟨e3, e6⟩ := (⟨hA0 3, hA0 6⟩ : _ ∧ _)
  clear hA0
  go_wp2_with fail
  go_loopw [6, 28] (fun _ i wq => ∃ j : Nat, i = .int .i64 j ∧ j ≤ E.args.length ∧ BelC wB wq) (fun _ i _ => E.args.length - (intOf i).toNat)
  case atStart => exact ⟨0, rfl, Nat.zero_le _, hb4⟩
  case round =>
    obtain ⟨j, rfl, hj, hbj⟩ := hrel
    by_cases hlt : j < E.args.length
    · obtain ⟨bp, op, rfl, hp⟩ := ExsO.get _ _ (ExsO.keep (S' := fun k => k < wr.heap.size) (fun k hk => ⟨Nat.lt_of_lt_of_le hk hbj.size, hbj.block k hk⟩) _ _ HAr.out) j hlt
      obtain ⟨hx1, hx2, hx3, hx4⟩ := part_ok E HCode.out j hlt
      obtain ⟨X, hX⟩ : ∃ X, X = E.args[j] := ⟨_, rfl⟩
      rw [← hX] at hp hx1 hx2 hx3 hx4
      obtain ⟨xA, yA, xN, yN, xT, yT, xM, yM, r0, r1, r2, r3, r4, r5, r6, hv, _⟩ := hp.val
      have HV := Lib.hid hv
      have HBj := Lib.hid hbj
      clear hv hp hX
      go_wp2_with fail
      obtain ⟨wX, hwX⟩ : ∃ wX, wX = wr.alloc (.cells #[.int .i64 X.kind, .string X.str, .int .i64 X.num, .slice xA X.args.length yA, .slice xN X.names.length yN, .slice xT X.types.length yT, .slice xM X.mems.length yM] 31) := ⟨_, rfl⟩
      have hXz : wX.heap.size = wr.heap.size + 1 := by rw [hwX]; simp
      have hXX : wX.heap[wr.heap.size]? = some (.cells #[.int .i64 X.kind, .string X.str, .int .i64 X.num, .slice xA X.args.length yA, .slice xN X.names.length yN, .slice xT X.types.length yT, .slice xM X.mems.length yM] 31 (0, 0)) := by rw [hwX]; exact heap_at _ _ _ rfl
      have hbX : BelC wB wX := by rw [hwX]; exact BelC.alloc hbj _
      have hrX : BelC wr wX := by rw [hwX]; exact (BelC.refl wr).alloc _
      have hcellX : ∀ W, BelC wX W → (∀ j, W.cell? ⟨BA, j, none⟩ = (#[.int .i64 ka, .string sa, .int .i64 na, .slice (some ⟨bp, op, none⟩) E.args.length cA, .slice aN nN cN, .slice aT nT cT, .slice aM E.mems.length cM] : Array Value)[j]?) ∧ (∀ j, W.cell? ⟨wr.heap.size, j, none⟩ = (#[.int .i64 X.kind, .string X.str, .int .i64 X.num, .slice xA X.args.length yA, .slice xN X.names.length yN, .slice xT X.types.length yT, .slice xM X.mems.length yM] : Array Value)[j]?) := fun W hW =>
        ⟨HC.out W (Below.trans hbX (hW.mono hbX.size)), blk_cell ((hW.block _ (by omega)).trans hXX)⟩
      have HCX := Lib.hid hcellX
      have HVX := Lib.hid (ExV.later hrX HV.out : ExV wX (fun k => k < wX.heap.size) X (.agg #[.int .i64 X.kind, .string X.str, .int .i64 X.num, .slice xA X.args.length yA, .slice xN X.names.length yN, .slice xT X.types.length yT, .slice xM X.mems.length yM]))
      have HVE := Lib.hid (ExV.later hbX HVA.out : ExV wX (fun k => k < wX.heap.size) E (.agg #[.int .i64 ka, .string sa, .int .i64 na, .slice (some ⟨bp, op, none⟩) E.args.length cA, .slice aN nN cN, .slice aT nT cT, .slice aM E.mems.length cM]))
      have HbX := Lib.hid hbX
      have hx0 := HCX.out wX (BelC.refl _)
      obtain ⟨dx, hdx⟩ : ∃ d : Int, (X.deep : Int) = d := ⟨_, rfl⟩
      obtain ⟨de, hde⟩ : ∃ d : Int, (E.deep : Int) = d := ⟨_, rfl⟩
      obtain ⟨sx, hsx⟩ : ∃ d : Int, (X.size : Int) = d := ⟨_, rfl⟩
      obtain ⟨se, hse⟩ : ∃ d : Int, (E.size : Int) = d := ⟨_, rfl⟩
      have hd : decide (de ≤ dx) = false := by simp; omega
      have hs : decide (se ≤ sx) = false := by simp; omega
      rw [← hwX]
      clear hwX hXX hcellX hbX hrX hbj
      go_region_held3 (fun W => (∀ j, W.cell? ⟨BA, j, none⟩ = (#[.int .i64 ka, .string sa, .int .i64 na, .slice (some ⟨bp, op, none⟩) E.args.length cA, .slice aN nN cN, .slice aT nT cT, .slice aM E.mems.length cM] : Array Value)[j]?) ∧ (∀ j, W.cell? ⟨wr.heap.size, j, none⟩ = (#[.int .i64 X.kind, .string X.str, .int .i64 X.num, .slice xA X.args.length yA, .slice xN X.names.length yN, .slice xT X.types.length yT, .slice xM X.mems.length yM] : Array Value)[j]?))
        (first | exact hx0 | (refine HCX.out _ ?_; (· repeat (first | assumption | exact BelC.refl _ | refine BelC.alloc ?_ _ | refine BelC.drew ?_))))
        (first | (go_at_call 12; with_reducible refine (chkE (wB := wX) HVX.out ?_ ?_ 0 hx1 ?_).mono ?_; (· omega); (· omega); (· repeat (first | assumption | exact BelC.refl _ | refine BelC.alloc ?_ _ | refine BelC.drew ?_)); rintro e w6 ⟨rfl, hb6⟩) | (go_at_call 16; with_reducible refine (deepE' (wB := wX) HVX.out ?_ dx hdx ?_).mono ?_; (· omega); (· repeat (first | assumption | exact BelC.refl _ | refine BelC.alloc ?_ _ | refine BelC.drew ?_)); rintro e w6 ⟨rfl, hb6⟩) | (go_at_call 16; with_reducible refine (deepE' (wB := wX) HVE.out ?_ de hde ?_).mono ?_; (· omega); (· repeat (first | assumption | exact BelC.refl _ | refine BelC.alloc ?_ _ | refine BelC.drew ?_)); rintro e w6 ⟨rfl, hb6⟩) | (go_at_call 14; with_reducible refine (sizeE (wB := wX) HVX.out ?_ sx hsx ?_).mono ?_; (· omega); (· repeat (first | assumption | exact BelC.refl _ | refine BelC.alloc ?_ _ | refine BelC.drew ?_)); rintro e w6 ⟨rfl, hb6⟩) | (go_at_call 14; with_reducible refine (sizeE (wB := wX) HVE.out ?_ se hse ?_).mono ?_; (· omega); (· repeat (first | assumption | exact BelC.refl _ | refine BelC.alloc ?_ _ | refine BelC.drew ?_)); rintro e w6 ⟨rfl, hb6⟩))
      go_wp2_with fail
      go_roundw
      case rel => exact ⟨j + 1, by go_num, by omega, Below.trans HbX.out (Below.mono hb6 HbX.out.size)⟩
      case measure => simp [intOf]; omega
    · obtain rfl : j = E.args.length := by omega
      have hA0 := HC.out wr hbj
      have e6 := hA0 6
      clear hA0
      obtain ⟨wL, rfl⟩ : ∃ wL, wL = wr := ⟨_, rfl⟩
      go_wp2_with fail
      go_loopw [8, 10, 53] (fun _ _ i wq => ∃ j : Nat, i = .int .i64 j ∧ j ≤ E.mems.length ∧ BelC wB wq) (fun _ _ i _ => E.mems.length - (intOf i).toNat)
      case atStart => exact ⟨0, rfl, Nat.zero_le _, hbj⟩
      case round =>
        obtain ⟨j2, rfl, hj2, hbj2⟩ := hrel
        by_cases hlt2 : j2 < E.mems.length
        · obtain ⟨bm, om, rfl, hpm⟩ := MmsO.get _ _ (MmsO.keep (S' := fun k => k < wr.heap.size) (fun k hk => ⟨Nat.lt_of_lt_of_le hk hbj2.size, hbj2.block k hk⟩) _ _ HMm.out) j2 hlt2
          have HOk := Lib.hid (mem_ok E HCode.out j2 hlt2)
          obtain ⟨M, hM⟩ : ∃ M, M = E.mems[j2] := ⟨_, rfl⟩
          rw [← hM] at hpm HOk
          obtain ⟨xA, yA, xT, yT, r0, r1, r2, r3, r4, hv⟩ := hpm.val
          have hpp := MmV.parts hv
          obtain ⟨_, hP1, hP2, hP3⟩ := hpp
          have HPr := Lib.hid hP3
          have HBj := Lib.hid hbj2
          unfold maxLen at hP2
          clear hv hpm hM hP3 hbj2
          obtain ⟨wO, rfl⟩ : ∃ wO, wO = wr := ⟨_, rfl⟩
          go_wp2_with fail
          obtain ⟨wM, hwM⟩ : ∃ wM, wM = wO.alloc (.cells #[.int .i64 M.kind, .string M.name, .string M.as', .slice xA M.args.length yA, .slice xT M.types.length yT] 49) := ⟨_, rfl⟩
          have hOM : BelC wO wM := by rw [hwM]; exact (BelC.refl wO).alloc _
          have HOM := Lib.hid hOM
          rw [← hwM]
          clear hwM hOM
          go_loopw [10, 60] (fun _ i wq => ∃ j : Nat, i = .int .i64 j ∧ j ≤ M.args.length ∧ BelC wM wq) (fun _ i _ => M.args.length - (intOf i).toNat)
          case atStart => exact ⟨0, rfl, Nat.zero_le _, BelC.refl _⟩
          case round =>
            obtain ⟨j3, rfl, hj3, hbj3⟩ := hrel
            have hbO : BelC wO wr := Below.trans HOM.out (Below.mono hbj3 HOM.out.size)
            by_cases hlt3 : j3 < M.args.length
            · obtain ⟨bp, op, rfl, hp⟩ := ExsO.get _ _ (ExsO.keep (S' := fun k => k < wr.heap.size) (fun k hk => ⟨Nat.lt_of_lt_of_le hk hbO.size, hbO.block k hk⟩) _ _ HPr.out) j3 hlt3
              obtain ⟨hx1, hx2, hx3⟩ := HOk.out j3 hlt3
              obtain ⟨X, hX⟩ : ∃ X, X = M.args[j3] := ⟨_, rfl⟩
              rw [← hX] at hp hx1 hx2 hx3
              obtain ⟨zA, tA, zN, tN, zT, tT, zM, tM, r0, r1, r2, r3, r4, r5, r6, hv, _⟩ := hp.val
              have HV := Lib.hid hv
              have HB3 := Lib.hid hbj3
              clear hv hp hX hbj3 hbO
              go_wp2_with fail
              refine (chkE (wB := wr) HV.out (by omega) (by omega) 0 hx1 ((BelC.refl wr).alloc _)).mono ?_
              rintro e w9 ⟨rfl, hb9⟩
              go_wp2_with fail
              go_roundw
              case rel => exact ⟨j3 + 1, by go_num, by omega, Below.trans HB3.out (Below.mono hb9 HB3.out.size)⟩
              case measure => simp [intOf]; omega
            · have hje3 : j3 = M.args.length := by omega
              have HbO := Lib.hid hbO
              clear hbO hbj3
              go_wp2_with fail
              go_roundw
              case rel => exact ⟨j2 + 1, by go_num, by omega, Below.trans HBj.out (Below.mono HbO.out HBj.out.size)⟩
              case measure => simp [intOf]; omega
        · have hje2 : j2 = E.mems.length := by omega
          have hA0 := HC.out wr hbj2
          obtain ⟨e0, e1, e2, e3, e4, e5, e6⟩ := (⟨hA0 0, hA0 1, hA0 2, hA0 3, hA0 4, hA0 5, hA0 6⟩ : _ ∧ _ ∧ _ ∧ _ ∧ _ ∧ _ ∧ _)
          clear hA0
          have hBa := HBa.out
          have hbz := hbj2.size
          have HVr := Lib.hid (ExV.later hbj2 HVA.out : ExV wr (fun k => k < wr.heap.size) E (.agg #[.int .i64 ka, .string sa, .int .i64 na, .slice aA E.args.length cA, .slice aN nN cN, .slice aT nT cT, .slice aM E.mems.length cM]))
          have HBr := Lib.hid (HBw.out.trans (Below.mono hbj2 HBw.out.size) : Below w.heap.size w wr)
          have HCr := Lib.hid (fun W (hW : BelC wr W) => HC.out W (Below.trans hbj2 (Below.mono hW hbj2.size)))
          clear hbj2
          go_wp2_with fail
          obtain ⟨wP, hwP⟩ : ∃ wP, wP = (wr.alloc (.cells #[.int .i64 ka, .string sa, .int .i64 na, .slice aA E.args.length cA, .slice aN nN cN, .slice aT nT cT, .slice aM E.mems.length cM, .int .i64 ka, .string sa, .int .i64 na, .slice aA E.args.length cA, .slice aN nN cN, .slice aT nT cT, .slice aM E.mems.length cM] 31)).alloc (.cells #[.int .i64 10, .string ⟨#[]⟩, .int .i64 0, .slice (some ⟨wr.heap.size, 0, none⟩) 2 2, .slice none 0 0, .slice none 0 0, .slice none 0 0] 31) := ⟨_, rfl⟩
          have hPz : wP.heap.size = wr.heap.size + 2 := by rw [hwP]; simp
          have hrP : BelC wr wP := by rw [hwP]; exact ((BelC.refl wr).alloc _).alloc _
          have hP1 : wP.heap[wr.heap.size]? = some (.cells #[.int .i64 ka, .string sa, .int .i64 na, .slice aA E.args.length cA, .slice aN nN cN, .slice aT nT cT, .slice aM E.mems.length cM, .int .i64 ka, .string sa, .int .i64 na, .slice aA E.args.length cA, .slice aN nN cN, .slice aT nT cT, .slice aM E.mems.length cM] 31 (0, 0)) := by rw [hwP]; exact (heap_past _ _ _ (by simp)).trans (heap_at _ _ _ rfl)
          have hP2 : wP.heap[wr.heap.size + 1]? = some (.cells #[.int .i64 10, .string ⟨#[]⟩, .int .i64 0, .slice (some ⟨wr.heap.size, 0, none⟩) 2 2, .slice none 0 0, .slice none 0 0, .slice none 0 0] 31 (0, 0)) := by rw [hwP]; exact heap_at _ _ _ (by simp)
          have hVB : ExV wP (fun k => k < wP.heap.size) (bothE E) (.agg #[.int .i64 10, .string ⟨#[]⟩, .int .i64 0, .slice (some ⟨wr.heap.size, 0, none⟩) 2 2, .slice none 0 0, .slice none 0 0, .slice none 0 0]) := by
            unfold bothE ExV
            exact ⟨_, 2, none, 0, none, 0, none, 0, rfl, by decide, Nat.le_refl _, by decide, Nat.le_refl _, Nat.zero_le _, Nat.le_refl _, Nat.zero_le _, Nat.le_refl _, Nat.zero_le _, exs_two hrP HVr.out HVr.out hP1, by unfold StrsO; trivial, by unfold TysO; trivial, by unfold MmsO; trivial⟩
          have hcellP : ∀ W, BelC wP W → (∀ j, W.cell? ⟨BA, j, none⟩ = (#[.int .i64 ka, .string sa, .int .i64 na, .slice aA E.args.length cA, .slice aN nN cN, .slice aT nT cT, .slice aM E.mems.length cM] : Array Value)[j]?) ∧ (∀ j, W.cell? ⟨wr.heap.size + 1, j, none⟩ = (#[.int .i64 10, .string ⟨#[]⟩, .int .i64 0, .slice (some ⟨wr.heap.size, 0, none⟩) 2 2, .slice none 0 0, .slice none 0 0, .slice none 0 0] : Array Value)[j]?) := fun W hW =>
            ⟨HCr.out W (Below.trans hrP (Below.mono hW hrP.size)), blk_cell ((hW.block _ (by omega)).trans hP2)⟩
          have HCP := Lib.hid hcellP
          have HVB := Lib.hid hVB
          have HVE := Lib.hid (ExV.later hrP HVr.out : ExV wP (fun k => k < wP.heap.size) E (.agg #[.int .i64 ka, .string sa, .int .i64 na, .slice aA E.args.length cA, .slice aN nN cN, .slice aT nT cT, .slice aM E.mems.length cM]))
          have HrP := Lib.hid hrP
          rw [← hwP]
          clear hwP hP1 hP2 hVB hcellP hrP
          obtain ⟨cb, hcb⟩ : ∃ c, checkCode (bothE E) = c := ⟨_, rfl⟩
          have hB1 := both_size E
          have hB2 := both_tsize E
          refine (chkE (wB := wP) HVB.out (by omega) (by omega) cb hcb (BelC.refl _)).mono ?_
          rintro e w5 ⟨rfl, hb5⟩
          have hx0 := HCP.out w5 hb5
          obtain ⟨sb, hsb⟩ : ∃ d : Int, ((bothE E).size : Int) = d := ⟨_, rfl⟩
          obtain ⟨se, hse⟩ : ∃ d : Int, (E.size : Int) = d := ⟨_, rfl⟩
          obtain ⟨db, hdb⟩ : ∃ d : Int, ((bothE E).deep : Int) = d := ⟨_, rfl⟩
          obtain ⟨de, hde⟩ : ∃ d : Int, (E.deep : Int) = d := ⟨_, rfl⟩
          obtain ⟨vb, hvb⟩ : ∃ d, (bothE E).value = d := ⟨_, rfl⟩
          have hve : E.value = vb := by rw [← hvb, both_value]
          have hB3 := both_deep E
          have hdl := Ex.deep_le E
          have hs1 : IntKind.i64.wrap (2 * se) = 2 * se := IntWalk.i64_in _ (by omega)
          have hs2 : IntKind.i64.wrap (2 * se + 1) = 2 * se + 1 := IntWalk.i64_in _ (by omega)
          have hs3 : (sb == 2 * se + 1) = true := by simp; omega
          have hd1 : IntKind.i64.wrap (de + 1) = de + 1 := IntWalk.i64_in _ (by omega)
          have hd2 : (db == de + 1) = true := by simp; omega
          rw [both_code E HCode.out] at hcb
          go_wp2_with fail
          by_cases h200 : 200 < E.deep + 1
          · rw [if_pos h200] at hcb
            subst hcb
            have hd3 : decide (200 < db) = true := by simp; omega
            refine wp_region_noPanic ?_
            refine wp_region_held_drew (S := (fun W => (∀ j, W.cell? ⟨BA, j, none⟩ = (#[.int .i64 ka, .string sa, .int .i64 na, .slice aA E.args.length cA, .slice aN nN cN, .slice aT nT cT, .slice aM E.mems.length cM] : Array Value)[j]?) ∧ (∀ j, W.cell? ⟨wr.heap.size + 1, j, none⟩ = (#[.int .i64 10, .string ⟨#[]⟩, .int .i64 0, .slice (some ⟨wr.heap.size, 0, none⟩) 2 2, .slice none 0 0, .slice none 0 0, .slice none 0 0] : Array Value)[j]?))) (by kernel_rfl) ?_ (fun hHeld => ?_)
            · (try dsimp only); (first | exact hx0 | (refine HCP.out _ ?_; (· repeat (first | assumption | exact BelC.refl _ | refine BelC.alloc ?_ _ | refine BelC.drew ?_))))
            refine wpAnyH_take (i := 0) (oi := { dst := some 75, op := Op.load 31 (Operand.tmp 11), type := 31, pos := "law.go:92", after := #[], guard := none }) (v := ?_) rfl (by kernel_rfl) (by kernel_rfl) (by kernel_rfl) (fun _ _ _ h => h) (Or.inl ⟨by rfl, ?_⟩) (by assumption) ?_
            rotate_left
            · intro w hSw; (try dsimp only at hSw); go_simp; (try with_reducible rfl)
            try simp only [Act.put, List.setIfInBounds_toArray, List.set_cons_zero, List.set_cons_succ]
            refine wpAnyH_take (i := 2) (oi := { dst := some 77, op := Op.load 31 (Operand.tmp 3), type := 31, pos := "law.go:92", after := #[], guard := none }) (v := ?_) rfl (by kernel_rfl) (by kernel_rfl) (by kernel_rfl) (fun _ _ _ h => h) (Or.inl ⟨by rfl, ?_⟩) (by assumption) ?_
            rotate_left
            · intro w hSw; (try dsimp only at hSw); go_simp; (try with_reducible rfl)
            try simp only [Act.put, List.setIfInBounds_toArray, List.set_cons_zero, List.set_cons_succ]
            refine wpAnyH_ready (rs := [1]) (by kernel_rfl) (by simp) ?_
            refine AllReadyH.cons (o := { dst := some 76, op := Op.call { callee := Callee.value (Operand.func 14), args := #[Operand.tmp 75], argTypes := #[31] }, type := 3, pos := "law.go:92", after := #[{ on := 0, ground := Ground.data }], guard := none }) rfl (fun K hK => ?_) AllReadyH.nil
            go_simp
            go_at_call 14; with_reducible refine (sizeE (wB := wP) HVB.out ?_ sb hsb ?_).mono ?_; (· omega); (· repeat (first | assumption | exact BelC.refl _ | refine BelC.alloc ?_ _ | refine BelC.drew ?_)); rintro e w6 ⟨rfl, hb6⟩
            go_wp2_with fail
            refine hK.out _ _ ?_ (fun hHeld => ?_)
            · (try dsimp only); (first | exact hx0 | (refine HCP.out _ ?_; (· repeat (first | assumption | exact BelC.refl _ | refine BelC.alloc ?_ _ | refine BelC.drew ?_))))
            clear hK K
            try simp only [Act.put, List.setIfInBounds_toArray, List.set_cons_zero, List.set_cons_succ]
            refine wpAnyH_ready (rs := [3]) (by kernel_rfl) (by simp) ?_
            refine AllReadyH.cons (o := { dst := some 78, op := Op.call { callee := Callee.value (Operand.func 14), args := #[Operand.tmp 77], argTypes := #[31] }, type := 3, pos := "law.go:92", after := #[{ on := 2, ground := Ground.data }, { on := 1, ground := Ground.chain }], guard := none }) rfl (fun K hK => ?_) AllReadyH.nil
            go_simp
            go_at_call 14; with_reducible refine (sizeE (wB := wP) HVE.out ?_ se hse ?_).mono ?_; (· omega); (· repeat (first | assumption | exact BelC.refl _ | refine BelC.alloc ?_ _ | refine BelC.drew ?_)); rintro e w6 ⟨rfl, hb6⟩
            go_wp2_with fail
            refine hK.out _ _ ?_ (fun hHeld => ?_)
            · (try dsimp only); (first | exact hx0 | (refine HCP.out _ ?_; (· repeat (first | assumption | exact BelC.refl _ | refine BelC.alloc ?_ _ | refine BelC.drew ?_))))
            clear hK K
            try simp only [Act.put, List.setIfInBounds_toArray, List.set_cons_zero, List.set_cons_succ]
            refine wpAnyH_take (i := 4) (oi := { dst := some 79, op := Op.binOp BinOp.mul 3 (Operand.const (Value.int IntKind.i64 2)) (Operand.tmp 78) 3, type := 3, pos := "law.go:92", after := #[{ on := 3, ground := Ground.data }], guard := none }) (v := ?_) rfl (by kernel_rfl) (by kernel_rfl) (by kernel_rfl) (fun _ _ _ h => h) (Or.inl ⟨by rfl, ?_⟩) (by assumption) ?_
            rotate_left
            · intro w hSw; (try dsimp only at hSw); go_simp; (try with_reducible rfl)
            try simp only [Act.put, List.setIfInBounds_toArray, List.set_cons_zero, List.set_cons_succ]
            refine wpAnyH_take (i := 5) (oi := { dst := some 80, op := Op.binOp BinOp.add 3 (Operand.tmp 79) (Operand.const (Value.int IntKind.i64 1)) 3, type := 3, pos := "law.go:92", after := #[{ on := 4, ground := Ground.data }], guard := none }) (v := ?_) rfl (by kernel_rfl) (by kernel_rfl) (by kernel_rfl) (fun _ _ _ h => h) (Or.inl ⟨by rfl, ?_⟩) (by assumption) ?_
            rotate_left
            · intro w hSw; (try dsimp only at hSw); go_simp; (try with_reducible rfl)
            try simp only [Act.put, List.setIfInBounds_toArray, List.set_cons_zero, List.set_cons_succ]
            refine wpAnyH_take (i := 6) (oi := { dst := some 81, op := Op.binOp BinOp.eql 3 (Operand.tmp 76) (Operand.tmp 80) 3, type := 4, pos := "law.go:92", after := #[{ on := 1, ground := Ground.data }, { on := 5, ground := Ground.data }], guard := none }) (v := ?_) rfl (by kernel_rfl) (by kernel_rfl) (by kernel_rfl) (fun _ _ _ h => h) (Or.inl ⟨by rfl, ?_⟩) (by assumption) ?_
            rotate_left
            · intro w hSw; (try dsimp only at hSw); go_simp; (try with_reducible rfl)
            try simp only [Act.put, List.setIfInBounds_toArray, List.set_cons_zero, List.set_cons_succ]
            refine wpAnyH_take (i := 7) (oi := { dst := some 82, op := Op.move (Operand.tmp 81), type := 4, pos := "law.go:92", after := #[{ on := 6, ground := Ground.data }, { on := 3, ground := Ground.chain }], guard := none }) (v := ?_) rfl (by kernel_rfl) (by kernel_rfl) (by kernel_rfl) (fun _ _ _ h => h) (Or.inl ⟨by rfl, ?_⟩) (by assumption) ?_
            rotate_left
            · intro w hSw; (try dsimp only at hSw); go_simp; (try with_reducible rfl)
            try simp only [Act.put, List.setIfInBounds_toArray, List.set_cons_zero, List.set_cons_succ]
            refine wpAnyH_take (i := 8) (oi := { dst := some 83, op := Op.load 31 (Operand.tmp 11), type := 31, pos := "law.go:92", after := #[{ on := 7, ground := Ground.guard }], guard := some (7, true) }) (v := ?_) rfl (by kernel_rfl) (by kernel_rfl) (by kernel_rfl) (fun _ _ _ h => h) (Or.inl ⟨by rfl, ?_⟩) (by assumption) ?_
            rotate_left
            · intro w hSw; (try dsimp only at hSw); go_simp; (try with_reducible rfl)
            try simp only [Act.put, List.setIfInBounds_toArray, List.set_cons_zero, List.set_cons_succ]
            refine wpAnyH_take (i := 10) (oi := { dst := some 85, op := Op.load 31 (Operand.tmp 3), type := 31, pos := "law.go:92", after := #[{ on := 7, ground := Ground.guard }], guard := some (7, true) }) (v := ?_) rfl (by kernel_rfl) (by kernel_rfl) (by kernel_rfl) (fun _ _ _ h => h) (Or.inl ⟨by rfl, ?_⟩) (by assumption) ?_
            rotate_left
            · intro w hSw; (try dsimp only at hSw); go_simp; (try with_reducible rfl)
            try simp only [Act.put, List.setIfInBounds_toArray, List.set_cons_zero, List.set_cons_succ]
            refine wpAnyH_ready (rs := [9]) (by kernel_rfl) (by simp) ?_
            refine AllReadyH.cons (o := { dst := some 84, op := Op.call { callee := Callee.value (Operand.func 16), args := #[Operand.tmp 83], argTypes := #[31] }, type := 3, pos := "law.go:92", after := #[{ on := 8, ground := Ground.data }, { on := 7, ground := Ground.chain }, { on := 7, ground := Ground.guard }], guard := some (7, true) }) rfl (fun K hK => ?_) AllReadyH.nil
            go_simp
            go_at_call 16; with_reducible refine (deepE' (wB := wP) HVB.out ?_ db hdb ?_).mono ?_; (· omega); (· repeat (first | assumption | exact BelC.refl _ | refine BelC.alloc ?_ _ | refine BelC.drew ?_)); rintro e w6 ⟨rfl, hb6⟩
            go_wp2_with fail
            refine hK.out _ _ ?_ (fun hHeld => ?_)
            · (try dsimp only); (first | exact hx0 | (refine HCP.out _ ?_; (· repeat (first | assumption | exact BelC.refl _ | refine BelC.alloc ?_ _ | refine BelC.drew ?_))))
            clear hK K
            try simp only [Act.put, List.setIfInBounds_toArray, List.set_cons_zero, List.set_cons_succ]
            refine wpAnyH_ready (rs := [11]) (by kernel_rfl) (by simp) ?_
            refine AllReadyH.cons (o := { dst := some 86, op := Op.call { callee := Callee.value (Operand.func 16), args := #[Operand.tmp 85], argTypes := #[31] }, type := 3, pos := "law.go:92", after := #[{ on := 10, ground := Ground.data }, { on := 9, ground := Ground.chain }, { on := 7, ground := Ground.guard }], guard := some (7, true) }) rfl (fun K hK => ?_) AllReadyH.nil
            go_simp
            go_at_call 16; with_reducible refine (deepE' (wB := wP) HVE.out ?_ de hde ?_).mono ?_; (· omega); (· repeat (first | assumption | exact BelC.refl _ | refine BelC.alloc ?_ _ | refine BelC.drew ?_)); rintro e w6 ⟨rfl, hb6⟩
            go_wp2_with fail
            refine hK.out _ _ ?_ (fun hHeld => ?_)
            · (try dsimp only); (first | exact hx0 | (refine HCP.out _ ?_; (· repeat (first | assumption | exact BelC.refl _ | refine BelC.alloc ?_ _ | refine BelC.drew ?_))))
            clear hK K
            try simp only [Act.put, List.setIfInBounds_toArray, List.set_cons_zero, List.set_cons_succ]
            refine wpAnyH_take (i := 12) (oi := { dst := some 87, op := Op.binOp BinOp.add 3 (Operand.tmp 86) (Operand.const (Value.int IntKind.i64 1)) 3, type := 3, pos := "law.go:92", after := #[{ on := 11, ground := Ground.data }, { on := 7, ground := Ground.guard }], guard := some (7, true) }) (v := ?_) rfl (by kernel_rfl) (by kernel_rfl) (by kernel_rfl) (fun _ _ _ h => h) (Or.inl ⟨by rfl, ?_⟩) (by assumption) ?_
            rotate_left
            · intro w hSw; (try dsimp only at hSw); go_simp; (try with_reducible rfl)
            try simp only [Act.put, List.setIfInBounds_toArray, List.set_cons_zero, List.set_cons_succ]
            refine wpAnyH_take (i := 13) (oi := { dst := some 88, op := Op.binOp BinOp.eql 3 (Operand.tmp 84) (Operand.tmp 87) 3, type := 4, pos := "law.go:92", after := #[{ on := 9, ground := Ground.data }, { on := 12, ground := Ground.data }, { on := 7, ground := Ground.guard }], guard := some (7, true) }) (v := ?_) rfl (by kernel_rfl) (by kernel_rfl) (by kernel_rfl) (fun _ _ _ h => h) (Or.inl ⟨by rfl, ?_⟩) (by assumption) ?_
            rotate_left
            · intro w hSw; (try dsimp only at hSw); go_simp; (try with_reducible rfl)
            try simp only [Act.put, List.setIfInBounds_toArray, List.set_cons_zero, List.set_cons_succ]
            refine wpAnyH_take (i := 14) (oi := { dst := some 89, op := Op.pick (Operand.tmp 82) (Operand.tmp 88) (Operand.const (Value.bool false)), type := 4, pos := "law.go:92", after := #[{ on := 7, ground := Ground.data }, { on := 13, ground := Ground.data }], guard := none }) (v := ?_) rfl (by kernel_rfl) (by kernel_rfl) (by kernel_rfl) (fun _ _ _ h => h) (Or.inl ⟨by rfl, ?_⟩) (by assumption) ?_
            rotate_left
            · intro w hSw; (try dsimp only at hSw); go_simp; (try with_reducible rfl)
            try simp only [Act.put, List.setIfInBounds_toArray, List.set_cons_zero, List.set_cons_succ]
            refine wpAnyH_take (i := 15) (oi := { dst := some 90, op := Op.move (Operand.tmp 89), type := 4, pos := "law.go:92", after := #[{ on := 14, ground := Ground.data }, { on := 11, ground := Ground.chain }], guard := none }) (v := ?_) rfl (by kernel_rfl) (by kernel_rfl) (by kernel_rfl) (fun _ _ _ h => h) (Or.inl ⟨by rfl, ?_⟩) (by assumption) ?_
            rotate_left
            · intro w hSw; (try dsimp only at hSw); go_simp; (try with_reducible rfl)
            try simp only [Act.put, List.setIfInBounds_toArray, List.set_cons_zero, List.set_cons_succ]
            refine wpAnyH_take (i := 16) (oi := { dst := some 91, op := Op.load 31 (Operand.tmp 11), type := 31, pos := "law.go:92", after := #[{ on := 15, ground := Ground.guard }], guard := some (15, true) }) (v := ?_) rfl (by kernel_rfl) (by kernel_rfl) (by kernel_rfl) (fun _ _ _ h => h) (Or.inl ⟨by rfl, ?_⟩) (by assumption) ?_
            rotate_left
            · intro w hSw; (try dsimp only at hSw); go_simp; (try with_reducible rfl)
            try simp only [Act.put, List.setIfInBounds_toArray, List.set_cons_zero, List.set_cons_succ]
            refine wpAnyH_take (i := 18) (oi := { dst := some 93, op := Op.load 31 (Operand.tmp 3), type := 31, pos := "law.go:92", after := #[{ on := 15, ground := Ground.guard }], guard := some (15, true) }) (v := ?_) rfl (by kernel_rfl) (by kernel_rfl) (by kernel_rfl) (fun _ _ _ h => h) (Or.inl ⟨by rfl, ?_⟩) (by assumption) ?_
            rotate_left
            · intro w hSw; (try dsimp only at hSw); go_simp; (try with_reducible rfl)
            try simp only [Act.put, List.setIfInBounds_toArray, List.set_cons_zero, List.set_cons_succ]
            refine wpAnyH_ready (rs := [17]) (by kernel_rfl) (by simp) ?_
            refine AllReadyH.cons (o := { dst := some 92, op := Op.call { callee := Callee.value (Operand.func 18), args := #[Operand.tmp 91], argTypes := #[31] }, type := 4, pos := "law.go:92", after := #[{ on := 16, ground := Ground.data }, { on := 15, ground := Ground.chain }, { on := 15, ground := Ground.guard }], guard := some (15, true) }) rfl (fun K hK => ?_) AllReadyH.nil
            go_simp
            go_at_call 18; with_reducible refine (valueE (wB := wP) HVB.out ?_ vb hvb ?_).mono ?_; (· omega); (· repeat (first | assumption | exact BelC.refl _ | refine BelC.alloc ?_ _ | refine BelC.drew ?_)); rintro e w6 ⟨rfl, hb6⟩
            go_wp2_with fail
            refine hK.out _ _ ?_ (fun hHeld => ?_)
            · (try dsimp only); (first | exact hx0 | (refine HCP.out _ ?_; (· repeat (first | assumption | exact BelC.refl _ | refine BelC.alloc ?_ _ | refine BelC.drew ?_))))
            clear hK K
            try simp only [Act.put, List.setIfInBounds_toArray, List.set_cons_zero, List.set_cons_succ]
            refine wpAnyH_ready (rs := [19]) (by kernel_rfl) (by simp) ?_
            refine AllReadyH.cons (o := { dst := some 94, op := Op.call { callee := Callee.value (Operand.func 18), args := #[Operand.tmp 93], argTypes := #[31] }, type := 4, pos := "law.go:92", after := #[{ on := 18, ground := Ground.data }, { on := 17, ground := Ground.chain }, { on := 15, ground := Ground.guard }], guard := some (15, true) }) rfl (fun K hK => ?_) AllReadyH.nil
            go_simp
            go_at_call 18; with_reducible refine (valueE (wB := wP) HVE.out ?_ vb hve ?_).mono ?_; (· omega); (· repeat (first | assumption | exact BelC.refl _ | refine BelC.alloc ?_ _ | refine BelC.drew ?_)); rintro e w6 ⟨rfl, hb6⟩
            go_wp2_with fail
            refine hK.out _ _ ?_ (fun hHeld => ?_)
            · (try dsimp only); (first | exact hx0 | (refine HCP.out _ ?_; (· repeat (first | assumption | exact BelC.refl _ | refine BelC.alloc ?_ _ | refine BelC.drew ?_))))
            clear hK K
            try simp only [Act.put, List.setIfInBounds_toArray, List.set_cons_zero, List.set_cons_succ]
            refine wpAnyH_take (i := 20) (oi := { dst := some 95, op := Op.binOp BinOp.eql 4 (Operand.tmp 92) (Operand.tmp 94) 4, type := 4, pos := "law.go:92", after := #[{ on := 17, ground := Ground.data }, { on := 19, ground := Ground.data }, { on := 15, ground := Ground.guard }], guard := some (15, true) }) (v := ?_) rfl (by kernel_rfl) (by kernel_rfl) (by kernel_rfl) (fun _ _ _ h => h) (Or.inl ⟨by rfl, ?_⟩) (by assumption) ?_
            rotate_left
            · intro w hSw; (try dsimp only at hSw); go_simp; (try with_reducible rfl)
            try simp only [Act.put, List.setIfInBounds_toArray, List.set_cons_zero, List.set_cons_succ]
            refine wpAnyH_take (i := 21) (oi := { dst := some 96, op := Op.pick (Operand.tmp 90) (Operand.tmp 95) (Operand.const (Value.bool false)), type := 4, pos := "law.go:92", after := #[{ on := 15, ground := Ground.data }, { on := 20, ground := Ground.data }], guard := none }) (v := ?_) rfl (by kernel_rfl) (by kernel_rfl) (by kernel_rfl) (fun _ _ _ h => h) (Or.inl ⟨by rfl, ?_⟩) (by assumption) ?_
            rotate_left
            · intro w hSw; (try dsimp only at hSw); go_simp; (try with_reducible rfl)
            try simp only [Act.put, List.setIfInBounds_toArray, List.set_cons_zero, List.set_cons_succ]
            refine wpAnyH_take (i := 22) (oi := { dst := some 97, op := Op.move (Operand.tmp 96), type := 4, pos := "law.go:92", after := #[{ on := 21, ground := Ground.data }, { on := 19, ground := Ground.chain }], guard := none }) (v := ?_) rfl (by kernel_rfl) (by kernel_rfl) (by kernel_rfl) (fun _ _ _ h => h) (Or.inl ⟨by rfl, ?_⟩) (by assumption) ?_
            rotate_left
            · intro w hSw; (try dsimp only at hSw); go_simp; (try with_reducible rfl)
            try simp only [Act.put, List.setIfInBounds_toArray, List.set_cons_zero, List.set_cons_succ]
            refine wpAnyH_take (i := 23) (oi := { dst := some 98, op := Op.move (Operand.tmp 12), type := 34, pos := "law.go:92", after := #[{ on := 22, ground := Ground.guard }], guard := some (22, true) }) (v := ?_) rfl (by kernel_rfl) (by kernel_rfl) (by kernel_rfl) (fun _ _ _ h => h) (Or.inl ⟨by rfl, ?_⟩) (by assumption) ?_
            rotate_left
            · intro w hSw; (try dsimp only at hSw); go_simp; (try with_reducible rfl)
            try simp only [Act.put, List.setIfInBounds_toArray, List.set_cons_zero, List.set_cons_succ]
            refine wpAnyH_take (i := 24) (oi := { dst := some 99, op := Op.binOp BinOp.eql 34 (Operand.tmp 98) (Operand.const (Value.int IntKind.i64 0)) 34, type := 4, pos := "law.go:92", after := #[{ on := 23, ground := Ground.data }, { on := 22, ground := Ground.guard }], guard := some (22, true) }) (v := ?_) rfl (by kernel_rfl) (by kernel_rfl) (by kernel_rfl) (fun _ _ _ h => h) (Or.inl ⟨by rfl, ?_⟩) (by assumption) ?_
            rotate_left
            · intro w hSw; (try dsimp only at hSw); go_simp; (try with_reducible rfl)
            try simp only [Act.put, List.setIfInBounds_toArray, List.set_cons_zero, List.set_cons_succ]
            refine wpAnyH_take (i := 25) (oi := { dst := some 100, op := Op.move (Operand.tmp 99), type := 4, pos := "law.go:92", after := #[{ on := 24, ground := Ground.data }, { on := 22, ground := Ground.chain }, { on := 22, ground := Ground.guard }], guard := some (22, true) }) (v := ?_) rfl (by kernel_rfl) (by kernel_rfl) (by kernel_rfl) (fun _ _ _ h => h) (Or.inl ⟨by rfl, ?_⟩) (by assumption) ?_
            rotate_left
            · intro w hSw; (try dsimp only at hSw); go_simp; (try with_reducible rfl)
            try simp only [Act.put, List.setIfInBounds_toArray, List.set_cons_zero, List.set_cons_succ]
            refine wpAnyH_take (i := 26) (oi := { dst := some 101, op := Op.move (Operand.tmp 12), type := 34, pos := "law.go:92", after := #[{ on := 25, ground := Ground.guard }], guard := some (25, false) }) (v := ?_) rfl (by kernel_rfl) (by kernel_rfl) (by kernel_rfl) (fun _ _ _ h => h) (Or.inl ⟨by rfl, ?_⟩) (by assumption) ?_
            rotate_left
            · intro w hSw; (try dsimp only at hSw); go_simp; (try with_reducible rfl)
            try simp only [Act.put, List.setIfInBounds_toArray, List.set_cons_zero, List.set_cons_succ]
            refine wpAnyH_take (i := 27) (oi := { dst := some 102, op := Op.binOp BinOp.eql 34 (Operand.tmp 101) (Operand.const (Value.int IntKind.i64 4)) 34, type := 4, pos := "law.go:92", after := #[{ on := 26, ground := Ground.data }, { on := 25, ground := Ground.guard }], guard := some (25, false) }) (v := ?_) rfl (by kernel_rfl) (by kernel_rfl) (by kernel_rfl) (fun _ _ _ h => h) (Or.inl ⟨by rfl, ?_⟩) (by assumption) ?_
            rotate_left
            · intro w hSw; (try dsimp only at hSw); go_simp; (try with_reducible rfl)
            try simp only [Act.put, List.setIfInBounds_toArray, List.set_cons_zero, List.set_cons_succ]
            refine wpAnyH_take (i := 28) (oi := { dst := some 103, op := Op.move (Operand.tmp 102), type := 4, pos := "law.go:92", after := #[{ on := 27, ground := Ground.data }, { on := 25, ground := Ground.chain }, { on := 25, ground := Ground.guard }], guard := some (25, false) }) (v := ?_) rfl (by kernel_rfl) (by kernel_rfl) (by kernel_rfl) (fun _ _ _ h => h) (Or.inl ⟨by rfl, ?_⟩) (by assumption) ?_
            rotate_left
            · intro w hSw; (try dsimp only at hSw); go_simp; (try with_reducible rfl)
            try simp only [Act.put, List.setIfInBounds_toArray, List.set_cons_zero, List.set_cons_succ]
            refine wpAnyH_take (i := 29) (oi := { dst := some 104, op := Op.load 31 (Operand.tmp 11), type := 31, pos := "law.go:92", after := #[{ on := 28, ground := Ground.guard }], guard := some (28, true) }) (v := ?_) rfl (by kernel_rfl) (by kernel_rfl) (by kernel_rfl) (fun _ _ _ h => h) (Or.inl ⟨by rfl, ?_⟩) (by assumption) ?_
            rotate_left
            · intro w hSw; (try dsimp only at hSw); go_simp; (try with_reducible rfl)
            try simp only [Act.put, List.setIfInBounds_toArray, List.set_cons_zero, List.set_cons_succ]
            refine wpAnyH_ready (rs := [30]) (by kernel_rfl) (by simp) ?_
            refine AllReadyH.cons (o := { dst := some 105, op := Op.call { callee := Callee.value (Operand.func 16), args := #[Operand.tmp 104], argTypes := #[31] }, type := 3, pos := "law.go:92", after := #[{ on := 29, ground := Ground.data }, { on := 28, ground := Ground.chain }, { on := 28, ground := Ground.guard }], guard := some (28, true) }) rfl (fun K hK => ?_) AllReadyH.nil
            go_simp
            go_at_call 16; with_reducible refine (deepE' (wB := wP) HVB.out ?_ db hdb ?_).mono ?_; (· omega); (· repeat (first | assumption | exact BelC.refl _ | refine BelC.alloc ?_ _ | refine BelC.drew ?_)); rintro e w6 ⟨rfl, hb6⟩
            go_wp2_with fail
            refine hK.out _ _ ?_ (fun hHeld => ?_)
            · (try dsimp only); (first | exact hx0 | (refine HCP.out _ ?_; (· repeat (first | assumption | exact BelC.refl _ | refine BelC.alloc ?_ _ | refine BelC.drew ?_))))
            clear hK K
            try simp only [Act.put, List.setIfInBounds_toArray, List.set_cons_zero, List.set_cons_succ]
            refine wpAnyH_take (i := 31) (oi := { dst := some 106, op := Op.binOp BinOp.gtr 3 (Operand.tmp 105) (Operand.const (Value.int IntKind.i64 200)) 3, type := 4, pos := "law.go:92", after := #[{ on := 30, ground := Ground.data }, { on := 28, ground := Ground.guard }], guard := some (28, true) }) (v := ?_) rfl (by kernel_rfl) (by kernel_rfl) (by kernel_rfl) (fun _ _ _ h => h) (Or.inl ⟨by rfl, ?_⟩) (by assumption) ?_
            rotate_left
            · intro w hSw; (try dsimp only at hSw); go_simp; (try with_reducible rfl)
            try simp only [Act.put, List.setIfInBounds_toArray, List.set_cons_zero, List.set_cons_succ]
            refine wpAnyH_take (i := 32) (oi := { dst := some 107, op := Op.pick (Operand.tmp 103) (Operand.tmp 106) (Operand.const (Value.bool false)), type := 4, pos := "law.go:92", after := #[{ on := 28, ground := Ground.data }, { on := 31, ground := Ground.data }, { on := 25, ground := Ground.guard }], guard := some (25, false) }) (v := ?_) rfl (by kernel_rfl) (by kernel_rfl) (by kernel_rfl) (fun _ _ _ h => h) (Or.inl ⟨by rfl, ?_⟩) (by assumption) ?_
            rotate_left
            · intro w hSw; (try dsimp only at hSw); go_simp; (try with_reducible rfl)
            try simp only [Act.put, List.setIfInBounds_toArray, List.set_cons_zero, List.set_cons_succ]
            refine wpAnyH_take (i := 33) (oi := { dst := some 108, op := Op.pick (Operand.tmp 100) (Operand.const (Value.bool true)) (Operand.tmp 107), type := 4, pos := "law.go:92", after := #[{ on := 25, ground := Ground.data }, { on := 32, ground := Ground.data }, { on := 22, ground := Ground.guard }], guard := some (22, true) }) (v := ?_) rfl (by kernel_rfl) (by kernel_rfl) (by kernel_rfl) (fun _ _ _ h => h) (Or.inl ⟨by rfl, ?_⟩) (by assumption) ?_
            rotate_left
            · intro w hSw; (try dsimp only at hSw); go_simp; (try with_reducible rfl)
            try simp only [Act.put, List.setIfInBounds_toArray, List.set_cons_zero, List.set_cons_succ]
            refine wpAnyH_take (i := 34) (oi := { dst := some 109, op := Op.pick (Operand.tmp 97) (Operand.tmp 108) (Operand.const (Value.bool false)), type := 4, pos := "law.go:92", after := #[{ on := 22, ground := Ground.data }, { on := 33, ground := Ground.data }], guard := none }) (v := ?_) rfl (by kernel_rfl) (by kernel_rfl) (by kernel_rfl) (fun _ _ _ h => h) (Or.inl ⟨by rfl, ?_⟩) (by assumption) ?_
            rotate_left
            · intro w hSw; (try dsimp only at hSw); go_simp; (try with_reducible rfl)
            try simp only [Act.put, List.setIfInBounds_toArray, List.set_cons_zero, List.set_cons_succ]
            refine wpAnyH_take (i := 35) (oi := { dst := some 2, op := Op.assign (Operand.tmp 109), type := 4, pos := "law.go:92", after := #[{ on := 34, ground := Ground.data }, { on := 30, ground := Ground.chain }, { on := 0, ground := Ground.phase }, { on := 1, ground := Ground.phase }, { on := 2, ground := Ground.phase }, { on := 3, ground := Ground.phase }, { on := 4, ground := Ground.phase }, { on := 5, ground := Ground.phase }, { on := 6, ground := Ground.phase }, { on := 7, ground := Ground.phase }, { on := 8, ground := Ground.phase }, { on := 9, ground := Ground.phase }, { on := 10, ground := Ground.phase }, { on := 11, ground := Ground.phase }, { on := 12, ground := Ground.phase }, { on := 13, ground := Ground.phase }, { on := 14, ground := Ground.phase }, { on := 15, ground := Ground.phase }, { on := 16, ground := Ground.phase }, { on := 17, ground := Ground.phase }, { on := 18, ground := Ground.phase }, { on := 19, ground := Ground.phase }, { on := 20, ground := Ground.phase }, { on := 21, ground := Ground.phase }, { on := 22, ground := Ground.phase }, { on := 23, ground := Ground.phase }, { on := 24, ground := Ground.phase }, { on := 25, ground := Ground.phase }, { on := 26, ground := Ground.phase }, { on := 27, ground := Ground.phase }, { on := 28, ground := Ground.phase }, { on := 29, ground := Ground.phase }, { on := 30, ground := Ground.phase }, { on := 31, ground := Ground.phase }, { on := 32, ground := Ground.phase }, { on := 33, ground := Ground.phase }, { on := 34, ground := Ground.phase }], guard := none }) (v := ?_) rfl (by kernel_rfl) (by kernel_rfl) (by kernel_rfl) (fun _ _ _ h => h) (Or.inl ⟨by rfl, ?_⟩) (by assumption) ?_
            rotate_left
            · intro w hSw; (try dsimp only at hSw); go_simp; (try with_reducible rfl)
            try simp only [Act.put, List.setIfInBounds_toArray, List.set_cons_zero, List.set_cons_succ]
            refine wpAnyH_done (by kernel_rfl) ?_ _
            refine NoPanic.normal ?_
            go_wp2_with fail
            go_ret
            exact ⟨rfl, HBr.out.trans (Below.mono HrP.out HBr.out.size |>.trans (Below.mono (by assumption) (Nat.le_trans HBr.out.size HrP.out.size)))⟩
          · rw [if_neg h200] at hcb
            subst hcb
            refine wp_region_noPanic ?_
            refine wp_region_held_drew (S := (fun W => (∀ j, W.cell? ⟨BA, j, none⟩ = (#[.int .i64 ka, .string sa, .int .i64 na, .slice aA E.args.length cA, .slice aN nN cN, .slice aT nT cT, .slice aM E.mems.length cM] : Array Value)[j]?) ∧ (∀ j, W.cell? ⟨wr.heap.size + 1, j, none⟩ = (#[.int .i64 10, .string ⟨#[]⟩, .int .i64 0, .slice (some ⟨wr.heap.size, 0, none⟩) 2 2, .slice none 0 0, .slice none 0 0, .slice none 0 0] : Array Value)[j]?))) (by kernel_rfl) ?_ (fun hHeld => ?_)
            · (try dsimp only); (first | exact hx0 | (refine HCP.out _ ?_; (· repeat (first | assumption | exact BelC.refl _ | refine BelC.alloc ?_ _ | refine BelC.drew ?_))))
            refine wpAnyH_take (i := 0) (oi := { dst := some 75, op := Op.load 31 (Operand.tmp 11), type := 31, pos := "law.go:92", after := #[], guard := none }) (v := ?_) rfl (by kernel_rfl) (by kernel_rfl) (by kernel_rfl) (fun _ _ _ h => h) (Or.inl ⟨by rfl, ?_⟩) (by assumption) ?_
            rotate_left
            · intro w hSw; (try dsimp only at hSw); go_simp; (try with_reducible rfl)
            try simp only [Act.put, List.setIfInBounds_toArray, List.set_cons_zero, List.set_cons_succ]
            refine wpAnyH_take (i := 2) (oi := { dst := some 77, op := Op.load 31 (Operand.tmp 3), type := 31, pos := "law.go:92", after := #[], guard := none }) (v := ?_) rfl (by kernel_rfl) (by kernel_rfl) (by kernel_rfl) (fun _ _ _ h => h) (Or.inl ⟨by rfl, ?_⟩) (by assumption) ?_
            rotate_left
            · intro w hSw; (try dsimp only at hSw); go_simp; (try with_reducible rfl)
            try simp only [Act.put, List.setIfInBounds_toArray, List.set_cons_zero, List.set_cons_succ]
            refine wpAnyH_ready (rs := [1]) (by kernel_rfl) (by simp) ?_
            refine AllReadyH.cons (o := { dst := some 76, op := Op.call { callee := Callee.value (Operand.func 14), args := #[Operand.tmp 75], argTypes := #[31] }, type := 3, pos := "law.go:92", after := #[{ on := 0, ground := Ground.data }], guard := none }) rfl (fun K hK => ?_) AllReadyH.nil
            go_simp
            go_at_call 14; with_reducible refine (sizeE (wB := wP) HVB.out ?_ sb hsb ?_).mono ?_; (· omega); (· repeat (first | assumption | exact BelC.refl _ | refine BelC.alloc ?_ _ | refine BelC.drew ?_)); rintro e w6 ⟨rfl, hb6⟩
            go_wp2_with fail
            refine hK.out _ _ ?_ (fun hHeld => ?_)
            · (try dsimp only); (first | exact hx0 | (refine HCP.out _ ?_; (· repeat (first | assumption | exact BelC.refl _ | refine BelC.alloc ?_ _ | refine BelC.drew ?_))))
            clear hK K
            try simp only [Act.put, List.setIfInBounds_toArray, List.set_cons_zero, List.set_cons_succ]
            refine wpAnyH_ready (rs := [3]) (by kernel_rfl) (by simp) ?_
            refine AllReadyH.cons (o := { dst := some 78, op := Op.call { callee := Callee.value (Operand.func 14), args := #[Operand.tmp 77], argTypes := #[31] }, type := 3, pos := "law.go:92", after := #[{ on := 2, ground := Ground.data }, { on := 1, ground := Ground.chain }], guard := none }) rfl (fun K hK => ?_) AllReadyH.nil
            go_simp
            go_at_call 14; with_reducible refine (sizeE (wB := wP) HVE.out ?_ se hse ?_).mono ?_; (· omega); (· repeat (first | assumption | exact BelC.refl _ | refine BelC.alloc ?_ _ | refine BelC.drew ?_)); rintro e w6 ⟨rfl, hb6⟩
            go_wp2_with fail
            refine hK.out _ _ ?_ (fun hHeld => ?_)
            · (try dsimp only); (first | exact hx0 | (refine HCP.out _ ?_; (· repeat (first | assumption | exact BelC.refl _ | refine BelC.alloc ?_ _ | refine BelC.drew ?_))))
            clear hK K
            try simp only [Act.put, List.setIfInBounds_toArray, List.set_cons_zero, List.set_cons_succ]
            refine wpAnyH_take (i := 4) (oi := { dst := some 79, op := Op.binOp BinOp.mul 3 (Operand.const (Value.int IntKind.i64 2)) (Operand.tmp 78) 3, type := 3, pos := "law.go:92", after := #[{ on := 3, ground := Ground.data }], guard := none }) (v := ?_) rfl (by kernel_rfl) (by kernel_rfl) (by kernel_rfl) (fun _ _ _ h => h) (Or.inl ⟨by rfl, ?_⟩) (by assumption) ?_
            rotate_left
            · intro w hSw; (try dsimp only at hSw); go_simp; (try with_reducible rfl)
            try simp only [Act.put, List.setIfInBounds_toArray, List.set_cons_zero, List.set_cons_succ]
            refine wpAnyH_take (i := 5) (oi := { dst := some 80, op := Op.binOp BinOp.add 3 (Operand.tmp 79) (Operand.const (Value.int IntKind.i64 1)) 3, type := 3, pos := "law.go:92", after := #[{ on := 4, ground := Ground.data }], guard := none }) (v := ?_) rfl (by kernel_rfl) (by kernel_rfl) (by kernel_rfl) (fun _ _ _ h => h) (Or.inl ⟨by rfl, ?_⟩) (by assumption) ?_
            rotate_left
            · intro w hSw; (try dsimp only at hSw); go_simp; (try with_reducible rfl)
            try simp only [Act.put, List.setIfInBounds_toArray, List.set_cons_zero, List.set_cons_succ]
            refine wpAnyH_take (i := 6) (oi := { dst := some 81, op := Op.binOp BinOp.eql 3 (Operand.tmp 76) (Operand.tmp 80) 3, type := 4, pos := "law.go:92", after := #[{ on := 1, ground := Ground.data }, { on := 5, ground := Ground.data }], guard := none }) (v := ?_) rfl (by kernel_rfl) (by kernel_rfl) (by kernel_rfl) (fun _ _ _ h => h) (Or.inl ⟨by rfl, ?_⟩) (by assumption) ?_
            rotate_left
            · intro w hSw; (try dsimp only at hSw); go_simp; (try with_reducible rfl)
            try simp only [Act.put, List.setIfInBounds_toArray, List.set_cons_zero, List.set_cons_succ]
            refine wpAnyH_take (i := 7) (oi := { dst := some 82, op := Op.move (Operand.tmp 81), type := 4, pos := "law.go:92", after := #[{ on := 6, ground := Ground.data }, { on := 3, ground := Ground.chain }], guard := none }) (v := ?_) rfl (by kernel_rfl) (by kernel_rfl) (by kernel_rfl) (fun _ _ _ h => h) (Or.inl ⟨by rfl, ?_⟩) (by assumption) ?_
            rotate_left
            · intro w hSw; (try dsimp only at hSw); go_simp; (try with_reducible rfl)
            try simp only [Act.put, List.setIfInBounds_toArray, List.set_cons_zero, List.set_cons_succ]
            refine wpAnyH_take (i := 8) (oi := { dst := some 83, op := Op.load 31 (Operand.tmp 11), type := 31, pos := "law.go:92", after := #[{ on := 7, ground := Ground.guard }], guard := some (7, true) }) (v := ?_) rfl (by kernel_rfl) (by kernel_rfl) (by kernel_rfl) (fun _ _ _ h => h) (Or.inl ⟨by rfl, ?_⟩) (by assumption) ?_
            rotate_left
            · intro w hSw; (try dsimp only at hSw); go_simp; (try with_reducible rfl)
            try simp only [Act.put, List.setIfInBounds_toArray, List.set_cons_zero, List.set_cons_succ]
            refine wpAnyH_take (i := 10) (oi := { dst := some 85, op := Op.load 31 (Operand.tmp 3), type := 31, pos := "law.go:92", after := #[{ on := 7, ground := Ground.guard }], guard := some (7, true) }) (v := ?_) rfl (by kernel_rfl) (by kernel_rfl) (by kernel_rfl) (fun _ _ _ h => h) (Or.inl ⟨by rfl, ?_⟩) (by assumption) ?_
            rotate_left
            · intro w hSw; (try dsimp only at hSw); go_simp; (try with_reducible rfl)
            try simp only [Act.put, List.setIfInBounds_toArray, List.set_cons_zero, List.set_cons_succ]
            refine wpAnyH_ready (rs := [9]) (by kernel_rfl) (by simp) ?_
            refine AllReadyH.cons (o := { dst := some 84, op := Op.call { callee := Callee.value (Operand.func 16), args := #[Operand.tmp 83], argTypes := #[31] }, type := 3, pos := "law.go:92", after := #[{ on := 8, ground := Ground.data }, { on := 7, ground := Ground.chain }, { on := 7, ground := Ground.guard }], guard := some (7, true) }) rfl (fun K hK => ?_) AllReadyH.nil
            go_simp
            go_at_call 16; with_reducible refine (deepE' (wB := wP) HVB.out ?_ db hdb ?_).mono ?_; (· omega); (· repeat (first | assumption | exact BelC.refl _ | refine BelC.alloc ?_ _ | refine BelC.drew ?_)); rintro e w6 ⟨rfl, hb6⟩
            go_wp2_with fail
            refine hK.out _ _ ?_ (fun hHeld => ?_)
            · (try dsimp only); (first | exact hx0 | (refine HCP.out _ ?_; (· repeat (first | assumption | exact BelC.refl _ | refine BelC.alloc ?_ _ | refine BelC.drew ?_))))
            clear hK K
            try simp only [Act.put, List.setIfInBounds_toArray, List.set_cons_zero, List.set_cons_succ]
            refine wpAnyH_ready (rs := [11]) (by kernel_rfl) (by simp) ?_
            refine AllReadyH.cons (o := { dst := some 86, op := Op.call { callee := Callee.value (Operand.func 16), args := #[Operand.tmp 85], argTypes := #[31] }, type := 3, pos := "law.go:92", after := #[{ on := 10, ground := Ground.data }, { on := 9, ground := Ground.chain }, { on := 7, ground := Ground.guard }], guard := some (7, true) }) rfl (fun K hK => ?_) AllReadyH.nil
            go_simp
            go_at_call 16; with_reducible refine (deepE' (wB := wP) HVE.out ?_ de hde ?_).mono ?_; (· omega); (· repeat (first | assumption | exact BelC.refl _ | refine BelC.alloc ?_ _ | refine BelC.drew ?_)); rintro e w6 ⟨rfl, hb6⟩
            go_wp2_with fail
            refine hK.out _ _ ?_ (fun hHeld => ?_)
            · (try dsimp only); (first | exact hx0 | (refine HCP.out _ ?_; (· repeat (first | assumption | exact BelC.refl _ | refine BelC.alloc ?_ _ | refine BelC.drew ?_))))
            clear hK K
            try simp only [Act.put, List.setIfInBounds_toArray, List.set_cons_zero, List.set_cons_succ]
            refine wpAnyH_take (i := 12) (oi := { dst := some 87, op := Op.binOp BinOp.add 3 (Operand.tmp 86) (Operand.const (Value.int IntKind.i64 1)) 3, type := 3, pos := "law.go:92", after := #[{ on := 11, ground := Ground.data }, { on := 7, ground := Ground.guard }], guard := some (7, true) }) (v := ?_) rfl (by kernel_rfl) (by kernel_rfl) (by kernel_rfl) (fun _ _ _ h => h) (Or.inl ⟨by rfl, ?_⟩) (by assumption) ?_
            rotate_left
            · intro w hSw; (try dsimp only at hSw); go_simp; (try with_reducible rfl)
            try simp only [Act.put, List.setIfInBounds_toArray, List.set_cons_zero, List.set_cons_succ]
            refine wpAnyH_take (i := 13) (oi := { dst := some 88, op := Op.binOp BinOp.eql 3 (Operand.tmp 84) (Operand.tmp 87) 3, type := 4, pos := "law.go:92", after := #[{ on := 9, ground := Ground.data }, { on := 12, ground := Ground.data }, { on := 7, ground := Ground.guard }], guard := some (7, true) }) (v := ?_) rfl (by kernel_rfl) (by kernel_rfl) (by kernel_rfl) (fun _ _ _ h => h) (Or.inl ⟨by rfl, ?_⟩) (by assumption) ?_
            rotate_left
            · intro w hSw; (try dsimp only at hSw); go_simp; (try with_reducible rfl)
            try simp only [Act.put, List.setIfInBounds_toArray, List.set_cons_zero, List.set_cons_succ]
            refine wpAnyH_take (i := 14) (oi := { dst := some 89, op := Op.pick (Operand.tmp 82) (Operand.tmp 88) (Operand.const (Value.bool false)), type := 4, pos := "law.go:92", after := #[{ on := 7, ground := Ground.data }, { on := 13, ground := Ground.data }], guard := none }) (v := ?_) rfl (by kernel_rfl) (by kernel_rfl) (by kernel_rfl) (fun _ _ _ h => h) (Or.inl ⟨by rfl, ?_⟩) (by assumption) ?_
            rotate_left
            · intro w hSw; (try dsimp only at hSw); go_simp; (try with_reducible rfl)
            try simp only [Act.put, List.setIfInBounds_toArray, List.set_cons_zero, List.set_cons_succ]
            refine wpAnyH_take (i := 15) (oi := { dst := some 90, op := Op.move (Operand.tmp 89), type := 4, pos := "law.go:92", after := #[{ on := 14, ground := Ground.data }, { on := 11, ground := Ground.chain }], guard := none }) (v := ?_) rfl (by kernel_rfl) (by kernel_rfl) (by kernel_rfl) (fun _ _ _ h => h) (Or.inl ⟨by rfl, ?_⟩) (by assumption) ?_
            rotate_left
            · intro w hSw; (try dsimp only at hSw); go_simp; (try with_reducible rfl)
            try simp only [Act.put, List.setIfInBounds_toArray, List.set_cons_zero, List.set_cons_succ]
            refine wpAnyH_take (i := 16) (oi := { dst := some 91, op := Op.load 31 (Operand.tmp 11), type := 31, pos := "law.go:92", after := #[{ on := 15, ground := Ground.guard }], guard := some (15, true) }) (v := ?_) rfl (by kernel_rfl) (by kernel_rfl) (by kernel_rfl) (fun _ _ _ h => h) (Or.inl ⟨by rfl, ?_⟩) (by assumption) ?_
            rotate_left
            · intro w hSw; (try dsimp only at hSw); go_simp; (try with_reducible rfl)
            try simp only [Act.put, List.setIfInBounds_toArray, List.set_cons_zero, List.set_cons_succ]
            refine wpAnyH_take (i := 18) (oi := { dst := some 93, op := Op.load 31 (Operand.tmp 3), type := 31, pos := "law.go:92", after := #[{ on := 15, ground := Ground.guard }], guard := some (15, true) }) (v := ?_) rfl (by kernel_rfl) (by kernel_rfl) (by kernel_rfl) (fun _ _ _ h => h) (Or.inl ⟨by rfl, ?_⟩) (by assumption) ?_
            rotate_left
            · intro w hSw; (try dsimp only at hSw); go_simp; (try with_reducible rfl)
            try simp only [Act.put, List.setIfInBounds_toArray, List.set_cons_zero, List.set_cons_succ]
            refine wpAnyH_ready (rs := [17]) (by kernel_rfl) (by simp) ?_
            refine AllReadyH.cons (o := { dst := some 92, op := Op.call { callee := Callee.value (Operand.func 18), args := #[Operand.tmp 91], argTypes := #[31] }, type := 4, pos := "law.go:92", after := #[{ on := 16, ground := Ground.data }, { on := 15, ground := Ground.chain }, { on := 15, ground := Ground.guard }], guard := some (15, true) }) rfl (fun K hK => ?_) AllReadyH.nil
            go_simp
            go_at_call 18; with_reducible refine (valueE (wB := wP) HVB.out ?_ vb hvb ?_).mono ?_; (· omega); (· repeat (first | assumption | exact BelC.refl _ | refine BelC.alloc ?_ _ | refine BelC.drew ?_)); rintro e w6 ⟨rfl, hb6⟩
            go_wp2_with fail
            refine hK.out _ _ ?_ (fun hHeld => ?_)
            · (try dsimp only); (first | exact hx0 | (refine HCP.out _ ?_; (· repeat (first | assumption | exact BelC.refl _ | refine BelC.alloc ?_ _ | refine BelC.drew ?_))))
            clear hK K
            try simp only [Act.put, List.setIfInBounds_toArray, List.set_cons_zero, List.set_cons_succ]
            refine wpAnyH_ready (rs := [19]) (by kernel_rfl) (by simp) ?_
            refine AllReadyH.cons (o := { dst := some 94, op := Op.call { callee := Callee.value (Operand.func 18), args := #[Operand.tmp 93], argTypes := #[31] }, type := 4, pos := "law.go:92", after := #[{ on := 18, ground := Ground.data }, { on := 17, ground := Ground.chain }, { on := 15, ground := Ground.guard }], guard := some (15, true) }) rfl (fun K hK => ?_) AllReadyH.nil
            go_simp
            go_at_call 18; with_reducible refine (valueE (wB := wP) HVE.out ?_ vb hve ?_).mono ?_; (· omega); (· repeat (first | assumption | exact BelC.refl _ | refine BelC.alloc ?_ _ | refine BelC.drew ?_)); rintro e w6 ⟨rfl, hb6⟩
            go_wp2_with fail
            refine hK.out _ _ ?_ (fun hHeld => ?_)
            · (try dsimp only); (first | exact hx0 | (refine HCP.out _ ?_; (· repeat (first | assumption | exact BelC.refl _ | refine BelC.alloc ?_ _ | refine BelC.drew ?_))))
            clear hK K
            try simp only [Act.put, List.setIfInBounds_toArray, List.set_cons_zero, List.set_cons_succ]
            refine wpAnyH_take (i := 20) (oi := { dst := some 95, op := Op.binOp BinOp.eql 4 (Operand.tmp 92) (Operand.tmp 94) 4, type := 4, pos := "law.go:92", after := #[{ on := 17, ground := Ground.data }, { on := 19, ground := Ground.data }, { on := 15, ground := Ground.guard }], guard := some (15, true) }) (v := ?_) rfl (by kernel_rfl) (by kernel_rfl) (by kernel_rfl) (fun _ _ _ h => h) (Or.inl ⟨by rfl, ?_⟩) (by assumption) ?_
            rotate_left
            · intro w hSw; (try dsimp only at hSw); go_simp; (try with_reducible rfl)
            try simp only [Act.put, List.setIfInBounds_toArray, List.set_cons_zero, List.set_cons_succ]
            refine wpAnyH_take (i := 21) (oi := { dst := some 96, op := Op.pick (Operand.tmp 90) (Operand.tmp 95) (Operand.const (Value.bool false)), type := 4, pos := "law.go:92", after := #[{ on := 15, ground := Ground.data }, { on := 20, ground := Ground.data }], guard := none }) (v := ?_) rfl (by kernel_rfl) (by kernel_rfl) (by kernel_rfl) (fun _ _ _ h => h) (Or.inl ⟨by rfl, ?_⟩) (by assumption) ?_
            rotate_left
            · intro w hSw; (try dsimp only at hSw); go_simp; (try with_reducible rfl)
            try simp only [Act.put, List.setIfInBounds_toArray, List.set_cons_zero, List.set_cons_succ]
            refine wpAnyH_take (i := 22) (oi := { dst := some 97, op := Op.move (Operand.tmp 96), type := 4, pos := "law.go:92", after := #[{ on := 21, ground := Ground.data }, { on := 19, ground := Ground.chain }], guard := none }) (v := ?_) rfl (by kernel_rfl) (by kernel_rfl) (by kernel_rfl) (fun _ _ _ h => h) (Or.inl ⟨by rfl, ?_⟩) (by assumption) ?_
            rotate_left
            · intro w hSw; (try dsimp only at hSw); go_simp; (try with_reducible rfl)
            try simp only [Act.put, List.setIfInBounds_toArray, List.set_cons_zero, List.set_cons_succ]
            refine wpAnyH_take (i := 23) (oi := { dst := some 98, op := Op.move (Operand.tmp 12), type := 34, pos := "law.go:92", after := #[{ on := 22, ground := Ground.guard }], guard := some (22, true) }) (v := ?_) rfl (by kernel_rfl) (by kernel_rfl) (by kernel_rfl) (fun _ _ _ h => h) (Or.inl ⟨by rfl, ?_⟩) (by assumption) ?_
            rotate_left
            · intro w hSw; (try dsimp only at hSw); go_simp; (try with_reducible rfl)
            try simp only [Act.put, List.setIfInBounds_toArray, List.set_cons_zero, List.set_cons_succ]
            refine wpAnyH_take (i := 24) (oi := { dst := some 99, op := Op.binOp BinOp.eql 34 (Operand.tmp 98) (Operand.const (Value.int IntKind.i64 0)) 34, type := 4, pos := "law.go:92", after := #[{ on := 23, ground := Ground.data }, { on := 22, ground := Ground.guard }], guard := some (22, true) }) (v := ?_) rfl (by kernel_rfl) (by kernel_rfl) (by kernel_rfl) (fun _ _ _ h => h) (Or.inl ⟨by rfl, ?_⟩) (by assumption) ?_
            rotate_left
            · intro w hSw; (try dsimp only at hSw); go_simp; (try with_reducible rfl)
            try simp only [Act.put, List.setIfInBounds_toArray, List.set_cons_zero, List.set_cons_succ]
            refine wpAnyH_take (i := 25) (oi := { dst := some 100, op := Op.move (Operand.tmp 99), type := 4, pos := "law.go:92", after := #[{ on := 24, ground := Ground.data }, { on := 22, ground := Ground.chain }, { on := 22, ground := Ground.guard }], guard := some (22, true) }) (v := ?_) rfl (by kernel_rfl) (by kernel_rfl) (by kernel_rfl) (fun _ _ _ h => h) (Or.inl ⟨by rfl, ?_⟩) (by assumption) ?_
            rotate_left
            · intro w hSw; (try dsimp only at hSw); go_simp; (try with_reducible rfl)
            try simp only [Act.put, List.setIfInBounds_toArray, List.set_cons_zero, List.set_cons_succ]
            refine wpAnyH_take (i := 26) (oi := { dst := some 101, op := Op.move (Operand.tmp 12), type := 34, pos := "law.go:92", after := #[{ on := 25, ground := Ground.guard }], guard := some (25, false) }) (v := undef) rfl (by kernel_rfl) (by kernel_rfl) (by kernel_rfl) (fun _ _ _ h => h) (Or.inr ⟨by rfl, rfl⟩) (by assumption) ?_
            try simp only [Act.put, List.setIfInBounds_toArray, List.set_cons_zero, List.set_cons_succ]
            refine wpAnyH_take (i := 27) (oi := { dst := some 102, op := Op.binOp BinOp.eql 34 (Operand.tmp 101) (Operand.const (Value.int IntKind.i64 4)) 34, type := 4, pos := "law.go:92", after := #[{ on := 26, ground := Ground.data }, { on := 25, ground := Ground.guard }], guard := some (25, false) }) (v := undef) rfl (by kernel_rfl) (by kernel_rfl) (by kernel_rfl) (fun _ _ _ h => h) (Or.inr ⟨by rfl, rfl⟩) (by assumption) ?_
            try simp only [Act.put, List.setIfInBounds_toArray, List.set_cons_zero, List.set_cons_succ]
            refine wpAnyH_take (i := 28) (oi := { dst := some 103, op := Op.move (Operand.tmp 102), type := 4, pos := "law.go:92", after := #[{ on := 27, ground := Ground.data }, { on := 25, ground := Ground.chain }, { on := 25, ground := Ground.guard }], guard := some (25, false) }) (v := undef) rfl (by kernel_rfl) (by kernel_rfl) (by kernel_rfl) (fun _ _ _ h => h) (Or.inr ⟨by rfl, rfl⟩) (by assumption) ?_
            try simp only [Act.put, List.setIfInBounds_toArray, List.set_cons_zero, List.set_cons_succ]
            refine wpAnyH_take (i := 29) (oi := { dst := some 104, op := Op.load 31 (Operand.tmp 11), type := 31, pos := "law.go:92", after := #[{ on := 28, ground := Ground.guard }], guard := some (28, true) }) (v := undef) rfl (by kernel_rfl) (by kernel_rfl) (by kernel_rfl) (fun _ _ _ h => h) (Or.inr ⟨by rfl, rfl⟩) (by assumption) ?_
            try simp only [Act.put, List.setIfInBounds_toArray, List.set_cons_zero, List.set_cons_succ]
            refine wpAnyH_take (i := 30) (oi := { dst := some 105, op := Op.call { callee := Callee.value (Operand.func 16), args := #[Operand.tmp 104], argTypes := #[31] }, type := 3, pos := "law.go:92", after := #[{ on := 29, ground := Ground.data }, { on := 28, ground := Ground.chain }, { on := 28, ground := Ground.guard }], guard := some (28, true) }) (v := undef) rfl (by kernel_rfl) (by kernel_rfl) (by kernel_rfl) (fun _ _ _ h => h) (Or.inr ⟨by rfl, rfl⟩) (by assumption) ?_
            try simp only [Act.put, List.setIfInBounds_toArray, List.set_cons_zero, List.set_cons_succ]
            refine wpAnyH_take (i := 31) (oi := { dst := some 106, op := Op.binOp BinOp.gtr 3 (Operand.tmp 105) (Operand.const (Value.int IntKind.i64 200)) 3, type := 4, pos := "law.go:92", after := #[{ on := 30, ground := Ground.data }, { on := 28, ground := Ground.guard }], guard := some (28, true) }) (v := undef) rfl (by kernel_rfl) (by kernel_rfl) (by kernel_rfl) (fun _ _ _ h => h) (Or.inr ⟨by rfl, rfl⟩) (by assumption) ?_
            try simp only [Act.put, List.setIfInBounds_toArray, List.set_cons_zero, List.set_cons_succ]
            refine wpAnyH_take (i := 32) (oi := { dst := some 107, op := Op.pick (Operand.tmp 103) (Operand.tmp 106) (Operand.const (Value.bool false)), type := 4, pos := "law.go:92", after := #[{ on := 28, ground := Ground.data }, { on := 31, ground := Ground.data }, { on := 25, ground := Ground.guard }], guard := some (25, false) }) (v := undef) rfl (by kernel_rfl) (by kernel_rfl) (by kernel_rfl) (fun _ _ _ h => h) (Or.inr ⟨by rfl, rfl⟩) (by assumption) ?_
            try simp only [Act.put, List.setIfInBounds_toArray, List.set_cons_zero, List.set_cons_succ]
            refine wpAnyH_take (i := 33) (oi := { dst := some 108, op := Op.pick (Operand.tmp 100) (Operand.const (Value.bool true)) (Operand.tmp 107), type := 4, pos := "law.go:92", after := #[{ on := 25, ground := Ground.data }, { on := 32, ground := Ground.data }, { on := 22, ground := Ground.guard }], guard := some (22, true) }) (v := ?_) rfl (by kernel_rfl) (by kernel_rfl) (by kernel_rfl) (fun _ _ _ h => h) (Or.inl ⟨by rfl, ?_⟩) (by assumption) ?_
            rotate_left
            · intro w hSw; (try dsimp only at hSw); go_simp; (try with_reducible rfl)
            try simp only [Act.put, List.setIfInBounds_toArray, List.set_cons_zero, List.set_cons_succ]
            refine wpAnyH_take (i := 34) (oi := { dst := some 109, op := Op.pick (Operand.tmp 97) (Operand.tmp 108) (Operand.const (Value.bool false)), type := 4, pos := "law.go:92", after := #[{ on := 22, ground := Ground.data }, { on := 33, ground := Ground.data }], guard := none }) (v := ?_) rfl (by kernel_rfl) (by kernel_rfl) (by kernel_rfl) (fun _ _ _ h => h) (Or.inl ⟨by rfl, ?_⟩) (by assumption) ?_
            rotate_left
            · intro w hSw; (try dsimp only at hSw); go_simp; (try with_reducible rfl)
            try simp only [Act.put, List.setIfInBounds_toArray, List.set_cons_zero, List.set_cons_succ]
            refine wpAnyH_take (i := 35) (oi := { dst := some 2, op := Op.assign (Operand.tmp 109), type := 4, pos := "law.go:92", after := #[{ on := 34, ground := Ground.data }, { on := 30, ground := Ground.chain }, { on := 0, ground := Ground.phase }, { on := 1, ground := Ground.phase }, { on := 2, ground := Ground.phase }, { on := 3, ground := Ground.phase }, { on := 4, ground := Ground.phase }, { on := 5, ground := Ground.phase }, { on := 6, ground := Ground.phase }, { on := 7, ground := Ground.phase }, { on := 8, ground := Ground.phase }, { on := 9, ground := Ground.phase }, { on := 10, ground := Ground.phase }, { on := 11, ground := Ground.phase }, { on := 12, ground := Ground.phase }, { on := 13, ground := Ground.phase }, { on := 14, ground := Ground.phase }, { on := 15, ground := Ground.phase }, { on := 16, ground := Ground.phase }, { on := 17, ground := Ground.phase }, { on := 18, ground := Ground.phase }, { on := 19, ground := Ground.phase }, { on := 20, ground := Ground.phase }, { on := 21, ground := Ground.phase }, { on := 22, ground := Ground.phase }, { on := 23, ground := Ground.phase }, { on := 24, ground := Ground.phase }, { on := 25, ground := Ground.phase }, { on := 26, ground := Ground.phase }, { on := 27, ground := Ground.phase }, { on := 28, ground := Ground.phase }, { on := 29, ground := Ground.phase }, { on := 30, ground := Ground.phase }, { on := 31, ground := Ground.phase }, { on := 32, ground := Ground.phase }, { on := 33, ground := Ground.phase }, { on := 34, ground := Ground.phase }], guard := none }) (v := ?_) rfl (by kernel_rfl) (by kernel_rfl) (by kernel_rfl) (fun _ _ _ h => h) (Or.inl ⟨by rfl, ?_⟩) (by assumption) ?_
            rotate_left
            · intro w hSw; (try dsimp only at hSw); go_simp; (try with_reducible rfl)
            try simp only [Act.put, List.setIfInBounds_toArray, List.set_cons_zero, List.set_cons_succ]
            refine wpAnyH_done (by kernel_rfl) ?_ _
            refine NoPanic.normal ?_
            go_wp2_with fail
            go_ret
            exact ⟨rfl, HBr.out.trans (Below.mono HrP.out HBr.out.size |>.trans (Below.mono (by assumption) (Nat.le_trans HBr.out.size HrP.out.size)))⟩
end Go.Proofs.Ythgbldkcgfggfaa
