/-
  trefoillaw02.TreeSame: the walk.
-/
import Derived.Test.YthgbldkcgfggfaaValues
import Derived.Test.YthgbldkcgfggfaaOf20
import Derived.Test.YthgbldkcgfggfaaSam0
namespace Go.Proofs.Ythgbldkcgfggfaa
open Go.RowKit

set_option maxRecDepth 100000 in
set_option maxHeartbeats 4000000 in
theorem same_main (w : World) (S : Nat → Prop) (l m : List Part) (A1 A2 : Option Addr) (c1 c2 : Nat) (t u more : Nat) (_ht : t < 256) (_hu : u < 256) (hmore : more < 65536) (hS : ∀ k, S k → k < w.heap.size) (hl : PtsO w S l A1) (hlc : l.length ≤ c1) (hc1 : c1 ≤ 10000000000000) (hm : PtsO w S m A2) (hmc : m.length ≤ c2) (hc2 : c2 ≤ 10000000000000) (hg1 : greatB l = false) (hg2 : greatB m = false) :
    Calls Try.prog 4 #[.agg #[.slice A1 l.length c1, .slice A2 m.length c2, .int .u8 t, .int .u8 u, .int .u16 more]] w fun e w' => e = .returned (.bool true) ∧ Below w.heap.size w w' := by
  have HS := Lib.hid hS
  have HL := Lib.hid hl
  have HM := Lib.hid hm
  have HG1 := Lib.hid hg1
  have HG2 := Lib.hid hg2
  clear hl hS hg1 hm hg2
  go_enter Try.func4, Try.ntmps4
  go_wp2_with fail
  obtain ⟨w0, hw0⟩ : ∃ w0, w0 = w.alloc (.cells #[.slice A1 l.length c1, .slice A2 m.length c2, .int .u8 t, .int .u8 u, .int .u16 more] 40) := ⟨_, rfl⟩
  have hz0 : w0.heap.size = w.heap.size + 1 := by rw [hw0]; simp
  have hrow : w0.heap[w.heap.size]? = some (.cells #[.slice A1 l.length c1, .slice A2 m.length c2, .int .u8 t, .int .u8 u, .int .u16 more] 40 (0, 0)) := by rw [hw0]; exact heap_at _ _ _ rfl
  have hb0 : Below w.heap.size w w0 := by rw [hw0]; exact (Below.refl _ _).alloc (Nat.le_refl _) _
  rw [← hw0]
  have HRow := Lib.hid hrow
  have HB0 := Lib.hid hb0
  clear hw0 hrow hb0
  refine (alive_any w0).mono ?_
  rintro e w1 ⟨rfl, hb1⟩
  obtain ⟨q0, q1, q2, q3, q4⟩ := (⟨blk_cell ((hb1.block _ (by omega)).trans HRow.out) 0, blk_cell ((hb1.block _ (by omega)).trans HRow.out) 1, blk_cell ((hb1.block _ (by omega)).trans HRow.out) 2, blk_cell ((hb1.block _ (by omega)).trans HRow.out) 3, blk_cell ((hb1.block _ (by omega)).trans HRow.out) 4⟩ : _ ∧ _ ∧ _ ∧ _ ∧ _)
  have HB1 := Lib.hid (HB0.out.trans (hb1.mono (by omega)) : Below w.heap.size w w1)
  clear hb1 hz0
  go_wp2_with fail
  go_quiet (fail)
  go_wp2_with fail
  have HB2 := Lib.hid (Below.drewN' HB1.out nq : Below w.heap.size w (w1.drewN nq))
  obtain ⟨w2, hw2⟩ : ∃ w2, w2 = w1.drewN nq := ⟨_, rfl⟩
  rw [← hw2] at HB2 ⊢
  clear q0 q1 q2 q3 q4 hw2 HB1
  obtain ⟨p1, p2⟩ := pts_later HS.out HB2.out HL.out
  refine (great_r w2 S l A1 c1 false p1 p2 hlc hc1 HG1.out).mono ?_
  rintro e w3 ⟨rfl, hb3⟩
  have HB3 := Lib.hid (HB2.out.trans (hb3.mono HB2.out.size))
  clear hb3 p1 p2
  go_wp2_with fail
  obtain ⟨p1, p2⟩ := pts_later HS.out HB3.out HM.out
  refine (great_r w3 S m A2 c2 false p1 p2 hmc hc2 HG2.out).mono ?_
  rintro e w4 ⟨rfl, hb4⟩
  have HB4 := Lib.hid (HB3.out.trans (hb4.mono HB3.out.size))
  clear hb4 p1 p2
  go_wp2_with fail
  obtain ⟨p1, p2⟩ := pts_later HS.out HB4.out HL.out
  refine (of_any l w4 S A1 c1 p1 p2 hlc hc1).mono ?_
  rintro e w5 ⟨va, ua, rfl, hva, hb5⟩
  obtain ⟨ka, sa, na, aA, nA, cA, aN, nN, cN, aT, nT, cT, aM, nM, cM, rfl⟩ := hva.form
  have HVA := Lib.hid hva
  have HB5 := Lib.hid (HB4.out.trans (hb5.mono HB4.out.size))
  clear hb5 p1 p2 hva
  go_wp2_with fail
  have HB5' := Lib.hid (HB5.out.alloc HB5.out.size (.cells #[.int .i64 ka, .string sa, .int .i64 na, .slice aA nA cA, .slice aN nN cN, .slice aT nT cT, .slice aM nM cM] 31))
  obtain ⟨p1, p2⟩ := pts_later HS.out HB5'.out HM.out
  refine (of_any m _ S A2 c2 p1 p2 hmc hc2).mono ?_
  rintro e w6 ⟨vb, ub, rfl, hvb, hb6⟩
  obtain ⟨kb, sb, nb, bA, mA, dA, bN, mN, dN, bT, mT, dT, bM, mM, dM, rfl⟩ := hvb.form
  have HVB := Lib.hid hvb
  have hz6 := hb6.size
  have HB6 := Lib.hid hb6
  clear hb6 p1 p2 hvb
  go_wp2_with fail
  refine (typeOf_any t _).mono ?_
  rintro e w7 ⟨tv, rfl, hvt, hb7⟩
  obtain ⟨x1, x2, x3, x4, x5, x6, x7, x8, x9, rfl⟩ := hvt.form
  have HVT := Lib.hid hvt
  have hz7 := hb7.size
  have HB7 := Lib.hid hb7
  clear hb7 hvt
  go_wp2_with fail
  refine (typeOf_any u _).mono ?_
  rintro e w8 ⟨yv, rfl, hvu, hb8⟩
  obtain ⟨y1, y2, y3, y4, y5, y6, y7, y8, y9, rfl⟩ := hvu.form
  have HVU := Lib.hid hvu
  have hz8 := hb8.size
  have HB8 := Lib.hid hb8
  clear hb8 hvu
  go_wp2_with fail
  have hz6' : w5.heap.size + 1 ≤ w6.heap.size := by simpa using hz6
  have hz7' : w6.heap.size + 1 ≤ w7.heap.size := by simpa using hz7
  obtain ⟨wB, hwB⟩ : ∃ wB, wB = (w8.alloc (.cells #[.int .i64 x1, .string x2, .slice x3 x4 x5, .slice x6 x7 x8, .bool x9] 42)).alloc (.cells #[.int .i64 y1, .string y2, .slice y3 y4 y5, .slice y6 y7 y8, .bool y9] 42) := ⟨_, rfl⟩
  have hBz : wB.heap.size = w8.heap.size + 2 := by rw [hwB]; simp
  have k8 : ∀ j, j < w8.heap.size → wB.heap[j]? = w8.heap[j]? := fun j hj => by rw [hwB]; exact (heap_past _ _ _ (by simp; omega)).trans (heap_past _ _ _ hj)
  have k7 : ∀ j, j < w7.heap.size → wB.heap[j]? = w7.heap[j]? := fun j hj => (k8 j (by omega)).trans (HB8.out.block j hj)
  have k6 : ∀ j, j < w6.heap.size → wB.heap[j]? = w6.heap[j]? := fun j hj => (k7 j (by omega)).trans ((HB7.out.block j (by simp; omega)).trans (heap_past _ _ _ hj))
  have k5 : ∀ j, j < w5.heap.size → wB.heap[j]? = w5.heap[j]? := fun j hj => (k6 j (by omega)).trans ((HB6.out.block j (by simp; omega)).trans (heap_past _ _ _ hj))
  have hBA : wB.heap[w5.heap.size]? = some (.cells #[.int .i64 ka, .string sa, .int .i64 na, .slice aA nA cA, .slice aN nN cN, .slice aT nT cT, .slice aM nM cM] 31 (0, 0)) := (k6 _ (by omega)).trans ((HB6.out.block _ (by simp)).trans (heap_at _ _ _ rfl))
  have hBB : wB.heap[w6.heap.size]? = some (.cells #[.int .i64 kb, .string sb, .int .i64 nb, .slice bA mA dA, .slice bN mN dN, .slice bT mT dT, .slice bM mM dM] 31 (0, 0)) := (k7 _ (by omega)).trans ((HB7.out.block _ (by simp)).trans (heap_at _ _ _ rfl))
  have hBX : wB.heap[w8.heap.size]? = some (.cells #[.int .i64 x1, .string x2, .slice x3 x4 x5, .slice x6 x7 x8, .bool x9] 42 (0, 0)) := by rw [hwB]; exact (heap_past _ _ _ (by simp)).trans (heap_at _ _ _ rfl)
  have hBY : wB.heap[w8.heap.size + 1]? = some (.cells #[.int .i64 y1, .string y2, .slice y3 y4 y5, .slice y6 y7 y8, .bool y9] 42 (0, 0)) := by rw [hwB]; exact heap_at _ _ _ (by simp)
  have hBw : Below w.heap.size w wB := by
    rw [hwB]
    have h5 := HB5.out.size
    exact ((((HB5'.out.trans (HB6.out.mono (by simp; omega))).alloc (by omega) _).trans (HB7.out.mono (by simp; omega))).trans (HB8.out.mono (by omega))).alloc (by omega) _ |>.alloc (by simp; omega) _
  have hVA : ExV wB (fun k => k < wB.heap.size ∧ k ≠ w8.heap.size) (ofE l) (.agg #[.int .i64 ka, .string sa, .int .i64 na, .slice aA nA cA, .slice aN nN cN, .slice aT nT cT, .slice aM nM cM]) :=
    ExV.keep (fun k hk => ⟨⟨by have := hk.2; omega, by have := hk.2; omega⟩, k5 k hk.2⟩) _ _ HVA.out
  have hVB : ExV wB (fun k => k < wB.heap.size ∧ k ≠ w8.heap.size) (ofE m) (.agg #[.int .i64 kb, .string sb, .int .i64 nb, .slice bA mA dA, .slice bN mN dN, .slice bT mT dT, .slice bM mM dM]) :=
    ExV.keep (fun k hk => ⟨⟨by have := hk.2; omega, by have := hk.2; omega⟩, k6 k hk.2⟩) _ _ HVB.out
  have hVT : TyV wB (fun k => k < wB.heap.size ∧ k ≠ w8.heap.size) (typeOf t) (.agg #[.int .i64 x1, .string x2, .slice x3 x4 x5, .slice x6 x7 x8, .bool x9]) :=
    TyV.keep (fun k hk => ⟨⟨by have := hk.2; omega, by have := hk.2; omega⟩, k7 k hk.2⟩) _ _ HVT.out
  have hVU : TyV wB (fun k => k < wB.heap.size ∧ k ≠ w8.heap.size) (typeOf u) (.agg #[.int .i64 y1, .string y2, .slice y3 y4 y5, .slice y6 y7 y8, .bool y9]) :=
    TyV.keep (fun k hk => ⟨⟨by have := hk.2; omega, by have := hk.2; omega⟩, k8 k hk.2⟩) _ _ HVU.out
  have hinv0 : ObjInv wB wB w8.heap.size (typeOf t) 0 (.int .i64 x1) (.string x2) (.slice x3 x4 x5) (.slice x6 x7 x8) (.bool x9) := ⟨Keeps.refl _ _, hBX, hVT⟩
  clear HVA HVB HVT HVU
  have HVA := Lib.hid hVA
  have HVB := Lib.hid hVB
  have HVU := Lib.hid hVU
  have HInv0 := Lib.hid hinv0
  have HBA := Lib.hid hBA
  have HBB := Lib.hid hBB
  have HBY := Lib.hid hBY
  have HBw := Lib.hid hBw
  have HBz := Lib.hid (by omega : w5.heap.size < w6.heap.size ∧ w6.heap.size < w8.heap.size ∧ w8.heap.size + 1 < wB.heap.size)
  have HW0 := Lib.hid (HB5.out.size : w.heap.size ≤ w5.heap.size)
  rw [← hwB]
  clear hwB hBA hBB hBX hBY hBw hVA hVB hVT hVU hinv0 HB8 HB7 HB6 HB5' HB5 HB4 HB3 HB2 HB0 hBz hz6 hz7 hz8 hz6' hz7' k5 k6 k7 k8
  obtain ⟨BA, hBA⟩ : ∃ BA, BA = w5.heap.size := ⟨_, rfl⟩
  obtain ⟨BB, hBB⟩ : ∃ BB, BB = w6.heap.size := ⟨_, rfl⟩
  obtain ⟨BX, hBX⟩ : ∃ BX, BX = w8.heap.size := ⟨_, rfl⟩
  rw [← hBA] at HBA HBz HW0 ⊢
  rw [← hBB] at HBB HBz ⊢
  rw [← hBX] at HVA HVB HVU HInv0 HBY HBz ⊢
  clear hBA hBB hBX
  go_loopw [48] (fun i wr => ∃ (k : Nat) (z1 : Int) (z2 : ByteArray) (z3 z6 : Option Addr) (z4 z5 z7 z8 : Nat) (z9 : Bool), i = .int .u16 k ∧ k ≤ more % 300 ∧ ObjInv wB wr BX (typeOf t) k (.int .i64 z1) (.string z2) (.slice z3 z4 z5) (.slice z6 z7 z8) (.bool z9)) (fun i _ => more % 300 - (intOf i).toNat)
  case atStart => exact ⟨0, _, _, _, _, _, _, _, _, _, rfl, Nat.zero_le _, HInv0.out⟩
  case round =>
    obtain ⟨k, z1, z2, z3, z6, z4, z5, z7, z8, z9, rfl, hk, hinv⟩ := hrel
    have cT' := blk_cell hinv.cell
    obtain ⟨q0, q1, q2, q3, q4⟩ := (⟨cT' 0, cT' 1, cT' 2, cT' 3, cT' 4⟩ : _ ∧ _ ∧ _ ∧ _ ∧ _)
    have HInv := Lib.hid hinv
    have hBr : BX < wr.heap.size := (Array.getElem?_eq_some_iff.1 hinv.cell).1
    by_cases hlt : k < more % 300
    · have hne : BX ≠ wr.heap.size := by omega
      have hne1 : BX ≠ wr.heap.size + 1 := by omega
      have fT : ∀ j, wr.frozen? ⟨BX, j, none⟩ = false := fun j => blk_frozen hinv.cell
      obtain ⟨s0, s1, s2, s3, s4⟩ := (⟨fT 0, fT 1, fT 2, fT 3, fT 4⟩ : _ ∧ _ ∧ _ ∧ _ ∧ _)
      have hN : ((wr.alloc (.cells #[.string ⟨#[109]⟩] 9)).alloc (.cells #[.int .i64 z1, .string z2, .slice z3 z4 z5, .slice z6 z7 z8, .bool z9] 42)).heap[BX]? = _ := (heap_past _ _ _ (by simp; omega)).trans ((heap_past _ _ _ hBr).trans hinv.cell)
      have cN := blk_cell hN
      have fN : ∀ j, ((wr.alloc (.cells #[.string ⟨#[109]⟩] 9)).alloc (.cells #[.int .i64 z1, .string z2, .slice z3 z4 z5, .slice z6 z7 z8, .bool z9] 42)).frozen? ⟨BX, j, none⟩ = false := fun j => blk_frozen hN
      obtain ⟨r0, r1, r2, r3, r4⟩ := (⟨cN 0, cN 1, cN 2, cN 3, cN 4⟩ : _ ∧ _ ∧ _ ∧ _ ∧ _)
      obtain ⟨t0, t1, t2, t3, t4⟩ := (⟨fN 0, fN 1, fN 2, fN 3, fN 4⟩ : _ ∧ _ ∧ _ ∧ _ ∧ _)
      clear cT' cN fN hinv hN fT
      go_wp2_with fail
      go_roundw
      case rel => exact ⟨k + 1, _, _, _, _, _, _, _, _, _, by go_num, by omega, HInv.out.step⟩
      case measure => simp [intOf]; omega
    · have hkn : k = more % 300 := by omega
      have hRA : wr.heap[BA]? = _ := (hinv.keeps.block _ (by have := HBz.out; omega) (by have := HBz.out; omega)).trans HBA.out
      have hRB : wr.heap[BB]? = _ := (hinv.keeps.block _ (by have := HBz.out; omega) (by have := HBz.out; omega)).trans HBB.out
      have hRY : wr.heap[BX + 1]? = _ := (hinv.keeps.block _ (by have := HBz.out; omega) (by omega)).trans HBY.out
      have HRA := Lib.hid hRA
      have HRB := Lib.hid hRB
      have HRY := Lib.hid hRY
      have HCellT := Lib.hid hinv.cell
      clear cT' hinv hRA hRB hRY q0 q1 q2 q3 q4
      have hz := HInv.out.keeps.size
      have hVA : ExV wr (fun k => k < wr.heap.size) (ofE l) (.agg #[.int .i64 ka, .string sa, .int .i64 na, .slice aA nA cA, .slice aN nN cN, .slice aT nT cT, .slice aM nM cM]) := ExV.keep (fun j hj => ⟨by have := hj.1; omega, HInv.out.keeps.block j hj.1 hj.2⟩) _ _ HVA.out
      have hVB : ExV wr (fun k => k < wr.heap.size) (ofE m) (.agg #[.int .i64 kb, .string sb, .int .i64 nb, .slice bA mA dA, .slice bN mN dN, .slice bT mT dT, .slice bM mM dM]) := ExV.keep (fun j hj => ⟨by have := hj.1; omega, HInv.out.keeps.block j hj.1 hj.2⟩) _ _ HVB.out
      have hVU : TyV wr (fun k => k < wr.heap.size) (typeOf u) (.agg #[.int .i64 y1, .string y2, .slice y3 y4 y5, .slice y6 y7 y8, .bool y9]) := TyV.keep (fun j hj => ⟨by have := hj.1; omega, HInv.out.keeps.block j hj.1 hj.2⟩) _ _ HVU.out
      have hVT : TyV wr (fun k => k < wr.heap.size) (objN k (typeOf t)) (.agg #[.int .i64 z1, .string z2, .slice z3 z4 z5, .slice z6 z7 z8, .bool z9]) := TyV.keep (fun j hj => ⟨hj.1, rfl⟩) _ _ HInv.out.val
      have hbw : Below w.heap.size w wr := HBw.out.trans (HInv.out.keeps.below HBw.out.size (fun i hi e => by have := HBz.out; have := HW0.out; omega))
      have HBwr := Lib.hid hbw
      have hN1 : (ofE l).size ≤ 1200 ∧ (ofE l).tsize ≤ 1400 := by
        have h1 := ofE_small l
        have h2 := HG1.out
        simp [greatB] at h2
        omega
      have hN3 : (ofE m).size ≤ 1200 ∧ (ofE m).tsize ≤ 1400 := by
        have h1 := ofE_small m
        have h2 := HG2.out
        simp [greatB] at h2
        omega
      have hN2 : (objN k (typeOf t)).size ≤ 400 := by
        rw [objN_size]
        have := typeOf_size t
        have : more % 300 < 300 := Nat.mod_lt _ (by omega)
        omega
      obtain ⟨T, hT⟩ : ∃ T, T = objN k (typeOf t) := ⟨_, rfl⟩
      rw [← hT] at hVT hN2
      obtain ⟨U, hU⟩ : ∃ U, U = typeOf u := ⟨_, rfl⟩
      rw [← hU] at hVU
      obtain ⟨EL, hE⟩ : ∃ E, E = ofE l := ⟨_, rfl⟩
      rw [← hE] at hVA hN1
      obtain ⟨EM, hE'⟩ : ∃ E, E = ofE m := ⟨_, rfl⟩
      rw [← hE'] at hVB hN3
      obtain ⟨qa, hqa⟩ : ∃ qa : Bool, (qa = true ↔ EL = EM) := by
        by_cases h : EL = EM
        · exact ⟨true, by simp [h]⟩
        · exact ⟨false, by simp [h]⟩
      obtain ⟨qt, hqt⟩ : ∃ qt : Bool, (qt = true ↔ T = U) := by
        by_cases h : T = U
        · exact ⟨true, by simp [h]⟩
        · exact ⟨false, by simp [h]⟩
      obtain ⟨cc, hcc⟩ : ∃ c, tcheck T = c := ⟨_, rfl⟩
      have HS1 : Hid (∀ W, BelC wr W → Calls Try.prog 21 #[.agg #[.int .i64 ka, .string sa, .int .i64 na, .slice aA nA cA, .slice aN nN cN, .slice aT nT cT, .slice aM nM cM], .agg #[.int .i64 kb, .string sb, .int .i64 nb, .slice bA mA dA, .slice bN mN dN, .slice bT mT dT, .slice bM mM dM]] W fun e w' => e = .returned (.bool qa) ∧ BelC wr w') := Lib.hid fun W hb =>
        (same_any W (fun k => k < W.heap.size) (fun k => k < W.heap.size) EL EM _ _ (fun _ h => h) (fun _ h => h) (ExV.later hb hVA) (ExV.later hb hVB) (by omega) (by omega) (by omega) qa hqa).mono fun _ _ h => ⟨h.1, Below.trans hb (h.2.mono (Below.size hb))⟩
      have HS2 : Hid (∀ W, BelC wr W → Calls Try.prog 21 #[.agg #[.int .i64 ka, .string sa, .int .i64 na, .slice aA nA cA, .slice aN nN cN, .slice aT nT cT, .slice aM nM cM], .agg #[.int .i64 ka, .string sa, .int .i64 na, .slice aA nA cA, .slice aN nN cN, .slice aT nT cT, .slice aM nM cM]] W fun e w' => e = .returned (.bool true) ∧ BelC wr w') := Lib.hid fun W hb =>
        (same_any W (fun k => k < W.heap.size) (fun k => k < W.heap.size) EL EL _ _ (fun _ h => h) (fun _ h => h) (ExV.later hb hVA) (ExV.later hb hVA) (by omega) (by omega) (by omega) true (by simp)).mono fun _ _ h => ⟨h.1, Below.trans hb (h.2.mono (Below.size hb))⟩
      have HR1 : Hid (∀ W, BelC wr W → Calls Try.prog 22 #[.agg #[.int .i64 ka, .string sa, .int .i64 na, .slice aA nA cA, .slice aN nN cN, .slice aT nT cT, .slice aM nM cM], .agg #[.int .i64 kb, .string sb, .int .i64 nb, .slice bA mA dA, .slice bN mN dN, .slice bT mT dT, .slice bM mM dM]] W fun e w' => e = .returned (.bool qa) ∧ BelC wr w') := Lib.hid fun W hb =>
        (rSame_any EL.tsize EL.size EL EM W (fun k => k < W.heap.size) (fun k => k < W.heap.size) _ _ qa (Nat.le_refl _) (Nat.le_refl _) (fun _ h => h) (fun _ h => h) (ExV.later hb hVA) (ExV.later hb hVB) hqa).mono fun _ _ h => ⟨h.1, Below.trans hb (h.2.mono (Below.size hb))⟩
      have HT1 : Hid (∀ W, BelC wr W → Calls Try.prog 23 #[.agg #[.int .i64 z1, .string z2, .slice z3 z4 z5, .slice z6 z7 z8, .bool z9], .agg #[.int .i64 y1, .string y2, .slice y3 y4 y5, .slice y6 y7 y8, .bool y9]] W fun e w' => e = .returned (.bool qt) ∧ BelC wr w') := Lib.hid fun W hb =>
        (sameType_any W (fun k => k < W.heap.size) (fun k => k < W.heap.size) T U _ _ (fun _ h => h) (fun _ h => h) (TyV.later hb hVT) (TyV.later hb hVU) (by omega) qt hqt).mono fun _ _ h => ⟨h.1, Below.trans hb (h.2.mono (Below.size hb))⟩
      have HT2 : Hid (∀ W, BelC wr W → Calls Try.prog 23 #[.agg #[.int .i64 z1, .string z2, .slice z3 z4 z5, .slice z6 z7 z8, .bool z9], .agg #[.int .i64 z1, .string z2, .slice z3 z4 z5, .slice z6 z7 z8, .bool z9]] W fun e w' => e = .returned (.bool true) ∧ BelC wr w') := Lib.hid fun W hb =>
        (sameType_any W (fun k => k < W.heap.size) (fun k => k < W.heap.size) T T _ _ (fun _ h => h) (fun _ h => h) (TyV.later hb hVT) (TyV.later hb hVT) (by omega) true (by simp)).mono fun _ _ h => ⟨h.1, Below.trans hb (h.2.mono (Below.size hb))⟩
      have HR2 : Hid (∀ W, BelC wr W → Calls Try.prog 24 #[.agg #[.int .i64 z1, .string z2, .slice z3 z4 z5, .slice z6 z7 z8, .bool z9], .agg #[.int .i64 y1, .string y2, .slice y3 y4 y5, .slice y6 y7 y8, .bool y9]] W fun e w' => e = .returned (.bool qt) ∧ BelC wr w') := Lib.hid fun W hb =>
        (rsameType_any T.size T U W (fun k => k < W.heap.size) (fun k => k < W.heap.size) _ _ qt (Nat.le_refl _) (fun _ h => h) (fun _ h => h) (TyV.later hb hVT) (TyV.later hb hVU) hqt).mono fun _ _ h => ⟨h.1, Below.trans hb (h.2.mono (Below.size hb))⟩
      have HC1 : Hid (∀ W, BelC wr W → Calls Try.prog 25 #[.agg #[.int .i64 z1, .string z2, .slice z3 z4 z5, .slice z6 z7 z8, .bool z9]] W fun e w' => e = .returned (.int .i64 cc) ∧ BelC wr w') := Lib.hid fun W hb => chkT (wB := wr) hVT (by omega) cc hcc hb
      have HC2 : Hid (∀ W, BelC wr W → Calls Try.prog 26 #[.agg #[.int .i64 z1, .string z2, .slice z3 z4 z5, .slice z6 z7 z8, .bool z9]] W fun e w' => e = .returned (.int .i64 cc) ∧ BelC wr w') := Lib.hid fun W hb =>
        (rcheckT_any T W (fun k => k < W.heap.size) _ (by omega) (fun _ h => h) (TyV.later hb hVT)).mono fun _ _ h => ⟨by rw [← hcc]; exact h.1, Below.trans hb (h.2.mono (Below.size hb))⟩
      have hcell : ∀ W, BelC wr W → (∀ j, W.cell? ⟨BA, j, none⟩ = (#[.int .i64 ka, .string sa, .int .i64 na, .slice aA nA cA, .slice aN nN cN, .slice aT nT cT, .slice aM nM cM] : Array Value)[j]?) ∧ (∀ j, W.cell? ⟨BB, j, none⟩ = (#[.int .i64 kb, .string sb, .int .i64 nb, .slice bA mA dA, .slice bN mN dN, .slice bT mT dT, .slice bM mM dM] : Array Value)[j]?) ∧ (∀ j, W.cell? ⟨BX, j, none⟩ = (#[.int .i64 z1, .string z2, .slice z3 z4 z5, .slice z6 z7 z8, .bool z9] : Array Value)[j]?) ∧ (∀ j, W.cell? ⟨BX + 1, j, none⟩ = (#[.int .i64 y1, .string y2, .slice y3 y4 y5, .slice y6 y7 y8, .bool y9] : Array Value)[j]?) := fun W hW =>
        ⟨blk_cell ((Below.block hW _ (by have := HBz.out; omega)).trans HRA.out), blk_cell ((Below.block hW _ (by have := HBz.out; omega)).trans HRB.out), blk_cell ((Below.block hW _ hBr).trans HCellT.out), blk_cell ((Below.block hW _ (by have := HBz.out; omega)).trans HRY.out)⟩
      have HC := Lib.hid hcell
      clear hcell hqa hqt hcc hE hE' hU hT hN1 hN2 hN3 hVA hVB hVT hVU hbw hz HVA HVB HVU HInv HInv0
      have hx0 := HC.out wr (BelC.refl _)
      go_wp2_with fail
      go_region_held3 (fun W => (∀ j, W.cell? ⟨BA, j, none⟩ = (#[.int .i64 ka, .string sa, .int .i64 na, .slice aA nA cA, .slice aN nN cN, .slice aT nT cT, .slice aM nM cM] : Array Value)[j]?) ∧ (∀ j, W.cell? ⟨BB, j, none⟩ = (#[.int .i64 kb, .string sb, .int .i64 nb, .slice bA mA dA, .slice bN mN dN, .slice bT mT dT, .slice bM mM dM] : Array Value)[j]?) ∧ (∀ j, W.cell? ⟨BX, j, none⟩ = (#[.int .i64 z1, .string z2, .slice z3 z4 z5, .slice z6 z7 z8, .bool z9] : Array Value)[j]?) ∧ (∀ j, W.cell? ⟨BX + 1, j, none⟩ = (#[.int .i64 y1, .string y2, .slice y3 y4 y5, .slice y6 y7 y8, .bool y9] : Array Value)[j]?))
        (first | exact hx0 | (refine HC.out _ ?_; (· repeat (first | assumption | exact BelC.refl _ | refine BelC.alloc ?_ _ | refine BelC.drew ?_ | refine BelC.drewN ?_ _))))
        (first | (go_at_call 21; with_reducible refine (HS1.out _ ?_).mono ?_; (· repeat (first | assumption | exact BelC.refl _ | refine BelC.alloc ?_ _ | refine BelC.drew ?_ | refine BelC.drewN ?_ _)); rintro e w11 ⟨rfl, hb11⟩) | (go_at_call 21; with_reducible refine (HS2.out _ ?_).mono ?_; (· repeat (first | assumption | exact BelC.refl _ | refine BelC.alloc ?_ _ | refine BelC.drew ?_ | refine BelC.drewN ?_ _)); rintro e w12 ⟨rfl, hb12⟩) | (go_at_call 22; with_reducible refine (HR1.out _ ?_).mono ?_; (· repeat (first | assumption | exact BelC.refl _ | refine BelC.alloc ?_ _ | refine BelC.drew ?_ | refine BelC.drewN ?_ _)); rintro e w13 ⟨rfl, hb13⟩) | (go_at_call 23; with_reducible refine (HT1.out _ ?_).mono ?_; (· repeat (first | assumption | exact BelC.refl _ | refine BelC.alloc ?_ _ | refine BelC.drew ?_ | refine BelC.drewN ?_ _)); rintro e w14 ⟨rfl, hb14⟩) | (go_at_call 23; with_reducible refine (HT2.out _ ?_).mono ?_; (· repeat (first | assumption | exact BelC.refl _ | refine BelC.alloc ?_ _ | refine BelC.drew ?_ | refine BelC.drewN ?_ _)); rintro e w15 ⟨rfl, hb15⟩) | (go_at_call 24; with_reducible refine (HR2.out _ ?_).mono ?_; (· repeat (first | assumption | exact BelC.refl _ | refine BelC.alloc ?_ _ | refine BelC.drew ?_ | refine BelC.drewN ?_ _)); rintro e w16 ⟨rfl, hb16⟩) | (go_at_call 25; with_reducible refine (HC1.out _ ?_).mono ?_; (· repeat (first | assumption | exact BelC.refl _ | refine BelC.alloc ?_ _ | refine BelC.drew ?_ | refine BelC.drewN ?_ _)); rintro e w17 ⟨rfl, hb17⟩) | (go_at_call 26; with_reducible refine (HC2.out _ ?_).mono ?_; (· repeat (first | assumption | exact BelC.refl _ | refine BelC.alloc ?_ _ | refine BelC.drew ?_ | refine BelC.drewN ?_ _)); rintro e w18 ⟨rfl, hb18⟩))
      go_wp2
      go_ret
      exact ⟨rfl, HBwr.out.trans (Below.mono hb15 HBwr.out.size)⟩
end Go.Proofs.Ythgbldkcgfggfaa
