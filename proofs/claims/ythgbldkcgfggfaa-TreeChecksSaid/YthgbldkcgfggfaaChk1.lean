/-
  trefoillaw02.TreeChecks: the walk.
-/
import Derived.Test.YthgbldkcgfggfaaValues
import Derived.Test.YthgbldkcgfggfaaOf20
import Derived.Test.YthgbldkcgfggfaaRCheck
import Derived.Test.YthgbldkcgfggfaaRValue
import Derived.Test.YthgbldkcgfggfaaRSize
namespace Go.Proofs.Ythgbldkcgfggfaa
open Go.RowKit

/-- An expression, as a function's body, k times. -/
def funN : Nat → Ex → Ex
  | 0, e => e
  | k + 1, e => .mk 6 ⟨#[120]⟩ 0 [funN k e] [] [] []
theorem funN_size (k : Nat) (e : Ex) : (funN k e).size = e.size + k := by
  induction k with
  | zero => rfl
  | succ k ih => simp only [funN, Ex.size, Ex.sizes, Mm.sizes, ih]; omega
theorem funN_tsize (k : Nat) (e : Ex) : (funN k e).tsize = e.tsize := by
  induction k with
  | zero => rfl
  | succ k ih => simp only [funN, Ex.tsize, Ex.tsizes, Mm.tsizes, Ty.sizes, ih]; omega

structure FunInv (wB wr : World) (B : Nat) (e0 : Ex) (k : Nat) (v1 v2 v3 v4 v5 v6 v7 : Value) : Prop where
  keeps : Keeps (fun j => j = B) wB wr
  cell : wr.heap[B]? = some (.cells #[v1, v2, v3, v4, v5, v6, v7] 31 (0, 0))
  val : ExV wr (fun j => j < wr.heap.size ∧ j ≠ B) (funN k e0) (.agg #[v1, v2, v3, v4, v5, v6, v7])

theorem eblk_set (w : World) (g : Nat) (t : TypeId) (a b c d e f h x1 x2 x3 x4 x5 x6 x7 : Value) (hc : w.heap[g]? = some (.cells #[a, b, c, d, e, f, h] t (0, 0))) :
    (((((((w.setCell ⟨g, 0, none⟩ x1).setCell ⟨g, 1, none⟩ x2).setCell ⟨g, 2, none⟩ x3).setCell ⟨g, 3, none⟩ x4).setCell ⟨g, 4, none⟩ x5).setCell ⟨g, 5, none⟩ x6).setCell ⟨g, 6, none⟩ x7).heap[g]? = some (.cells #[x1, x2, x3, x4, x5, x6, x7] t (0, 0)) := by
  simp [World.setCell, Array.getElem?_modify, hc]

theorem FunInv.step {wB wr : World} {B : Nat} {e0 : Ex} {k : Nat} {v1 v2 v3 v4 v5 v6 v7 : Value} (h : FunInv wB wr B e0 k v1 v2 v3 v4 v5 v6 v7) :
    FunInv wB ((((((((wr.setCell ⟨B, 0, none⟩ (.int .i64 6)).setCell ⟨B, 1, none⟩ (.string ⟨#[120]⟩)).setCell ⟨B, 2, none⟩ (.int .i64 0)).setCell ⟨B, 3, none⟩ (.slice (some ⟨wr.heap.size, 0, none⟩) 1 1)).setCell ⟨B, 4, none⟩ (.slice none 0 0)).setCell ⟨B, 5, none⟩ (.slice none 0 0)).setCell ⟨B, 6, none⟩ (.slice none 0 0)).alloc (.cells #[v1, v2, v3, v4, v5, v6, v7] 31)) B e0 (k + 1)
      (.int .i64 6) (.string ⟨#[120]⟩) (.int .i64 0) (.slice (some ⟨wr.heap.size, 0, none⟩) 1 1) (.slice none 0 0) (.slice none 0 0) (.slice none 0 0) := by
  have hB : B < wr.heap.size := (Array.getElem?_eq_some_iff.1 h.cell).1
  have k1 := (Keeps.refl (fun j => j = B) wr).setCell (p := ⟨B, 0, none⟩) (fun _ => rfl) (.int .i64 6)
  have k2 := k1.setCell (p := ⟨B, 1, none⟩) (fun _ => rfl) (.string ⟨#[120]⟩)
  have k3 := k2.setCell (p := ⟨B, 2, none⟩) (fun _ => rfl) (.int .i64 0)
  have k4 := k3.setCell (p := ⟨B, 3, none⟩) (fun _ => rfl) (.slice (some ⟨wr.heap.size, 0, none⟩) 1 1)
  have k5 := k4.setCell (p := ⟨B, 4, none⟩) (fun _ => rfl) (.slice none 0 0)
  have k6 := k5.setCell (p := ⟨B, 5, none⟩) (fun _ => rfl) (.slice none 0 0)
  have k7 := k6.setCell (p := ⟨B, 6, none⟩) (fun _ => rfl) (.slice none 0 0)
  have k8 := k7.alloc (.cells #[v1, v2, v3, v4, v5, v6, v7] 31)
  have hset := (heap_past _ (.cells #[v1, v2, v3, v4, v5, v6, v7] 31) _ (by simp [World.setCell]; omega)).trans (eblk_set _ _ _ _ _ _ _ _ _ _ (.int .i64 6) (.string ⟨#[120]⟩) (.int .i64 0) (.slice (some ⟨wr.heap.size, 0, none⟩) 1 1) (.slice none 0 0) (.slice none 0 0) (.slice none 0 0) h.cell)
  refine ⟨h.keeps.trans k8, hset, ?_⟩
  unfold funN ExV
  refine ⟨_, 1, none, 0, none, 0, none, 0, rfl, by decide, Nat.le_refl _, by decide, Nat.zero_le _, Nat.zero_le _, Nat.zero_le _, Nat.zero_le _, Nat.zero_le _, Nat.zero_le _, ?_, by unfold StrsO; trivial, by unfold TysO; trivial, by unfold MmsO; trivial⟩
  unfold ExsO
  refine ⟨wr.heap.size, 0, _, rfl, ⟨by simp [World.setCell], by omega⟩, cellsAt_of (heap_at _ _ _ (by simp [World.setCell])) ?_, ExV.keep (fun j hj => ⟨⟨?_, hj.2⟩, k8.block j hj.1 hj.2⟩) _ _ h.val, by unfold ExsO; trivial⟩
  · intro j u hu
    simpa [Value.cells] using hu
  · have := hj.1
    simp [World.setCell]
    omega

set_option maxRecDepth 100000 in
set_option maxHeartbeats 4000000 in
theorem checks_main (w : World) (S : Nat → Prop) (l : List Part) (A1 : Option Addr) (c1 : Nat) (more : Nat) (hmore : more < 65536) (hS : ∀ k, S k → k < w.heap.size) (hl : PtsO w S l A1) (hlc : l.length ≤ c1) (hc1 : c1 ≤ 10000000000000) (hg1 : greatB l = false) :
    Calls Try.prog 3 #[.slice A1 l.length c1, .int .u16 more] w fun e w' => e = .returned (.bool true) ∧ Below w.heap.size w w' := by
  have HS := Lib.hid hS
  have HL := Lib.hid hl
  have HG1 := Lib.hid hg1
  clear hl hS hg1
  go_enter Try.func3, Try.ntmps3
  go_wp2_with fail
  refine (alive_any w).mono ?_
  rintro e w1 ⟨rfl, hb1⟩
  have HB1 := Lib.hid hb1
  clear hb1
  go_wp2_with fail
  obtain ⟨p1, p2⟩ := pts_later HS.out HB1.out HL.out
  refine (great_r w1 S l A1 c1 false p1 p2 hlc hc1 HG1.out).mono ?_
  rintro e w2 ⟨rfl, hb2⟩
  have HB2 := Lib.hid (HB1.out.trans (hb2.mono HB1.out.size))
  clear hb2 p1 p2
  go_wp2_with fail
  obtain ⟨p1, p2⟩ := pts_later HS.out HB2.out HL.out
  refine (of_any l w2 S A1 c1 p1 p2 hlc hc1).mono ?_
  rintro e w3 ⟨va, ua, rfl, hva, hb3⟩
  obtain ⟨ka, sa, na, aA, nA, cA, aN, nN, cN, aT, nT, cT, aM, nM, cM, rfl⟩ := hva.form
  have HVA := Lib.hid hva
  have HB3 := Lib.hid (HB2.out.trans (hb3.mono HB2.out.size))
  clear hb3 p1 p2 hva
  go_wp2_with fail
  obtain ⟨wB, hwB⟩ : ∃ wB, wB = w3.alloc (.cells #[.int .i64 ka, .string sa, .int .i64 na, .slice aA nA cA, .slice aN nN cN, .slice aT nT cT, .slice aM nM cM] 31) := ⟨_, rfl⟩
  have hBz : wB.heap.size = w3.heap.size + 1 := by rw [hwB]; simp
  have hBE : wB.heap[w3.heap.size]? = some (.cells #[.int .i64 ka, .string sa, .int .i64 na, .slice aA nA cA, .slice aN nN cN, .slice aT nT cT, .slice aM nM cM] 31 (0, 0)) := by rw [hwB]; exact heap_at _ _ _ rfl
  have hBw : Below w.heap.size w wB := by rw [hwB]; exact HB3.out.alloc HB3.out.size _
  have hVA : ExV wB (fun k => k < wB.heap.size ∧ k ≠ w3.heap.size) (ofE l) (.agg #[.int .i64 ka, .string sa, .int .i64 na, .slice aA nA cA, .slice aN nN cN, .slice aT nT cT, .slice aM nM cM]) :=
    ExV.keep (fun k hk => ⟨⟨by have := hk.2; omega, by have := hk.2; omega⟩, by rw [hwB]; exact heap_past _ _ _ hk.2⟩) _ _ HVA.out
  have hinv0 : FunInv wB wB w3.heap.size (ofE l) 0 (.int .i64 ka) (.string sa) (.int .i64 na) (.slice aA nA cA) (.slice aN nN cN) (.slice aT nT cT) (.slice aM nM cM) := ⟨Keeps.refl _ _, hBE, hVA⟩
  clear HVA
  have HInv0 := Lib.hid hinv0
  have HBw := Lib.hid hBw
  have HBz := Lib.hid (by omega : w3.heap.size < wB.heap.size)
  have HW0 := Lib.hid (HB3.out.size : w.heap.size ≤ w3.heap.size)
  rw [← hwB]
  clear hwB hBE hBw hVA hinv0 HB3 HB2 HB1 hBz
  obtain ⟨BE, hBE⟩ : ∃ BE, BE = w3.heap.size := ⟨_, rfl⟩
  rw [← hBE] at HInv0 HBz HW0 ⊢
  clear hBE
  go_loopw [18] (fun i wr => ∃ (k : Nat) (z1 : Int) (z2 : ByteArray) (z3 : Int) (y1 : Option Addr) (y2 y3 : Nat) (y4 : Option Addr) (y5 y6 : Nat) (y7 : Option Addr) (y8 y9 : Nat) (x1 : Option Addr) (x2 x3 : Nat), i = .int .u16 k ∧ k ≤ more % 300 ∧ FunInv wB wr BE (ofE l) k (.int .i64 z1) (.string z2) (.int .i64 z3) (.slice y1 y2 y3) (.slice y4 y5 y6) (.slice y7 y8 y9) (.slice x1 x2 x3)) (fun i _ => more % 300 - (intOf i).toNat)
  case atStart => exact ⟨0, _, _, _, _, _, _, _, _, _, _, _, _, _, _, _, rfl, Nat.zero_le _, HInv0.out⟩
  case round =>
    obtain ⟨k, z1, z2, z3, y1, y2, y3, y4, y5, y6, y7, y8, y9, x1, x2, x3, rfl, hk, hinv⟩ := hrel
    have cT' := blk_cell hinv.cell
    obtain ⟨q0, q1, q2, q3, q4, q5, q6⟩ := (⟨cT' 0, cT' 1, cT' 2, cT' 3, cT' 4, cT' 5, cT' 6⟩ : _ ∧ _ ∧ _ ∧ _ ∧ _ ∧ _ ∧ _)
    have HInv := Lib.hid hinv
    have hBr : BE < wr.heap.size := (Array.getElem?_eq_some_iff.1 hinv.cell).1
    by_cases hlt : k < more % 300
    · have hne : BE ≠ wr.heap.size := by omega
      have fT : ∀ j, wr.frozen? ⟨BE, j, none⟩ = false := fun j => blk_frozen hinv.cell
      obtain ⟨s0, s1, s2, s3, s4, s5, s6⟩ := (⟨fT 0, fT 1, fT 2, fT 3, fT 4, fT 5, fT 6⟩ : _ ∧ _ ∧ _ ∧ _ ∧ _ ∧ _ ∧ _)
      have hN := (heap_past wr (.cells #[.int .i64 z1, .string z2, .int .i64 z3, .slice y1 y2 y3, .slice y4 y5 y6, .slice y7 y8 y9, .slice x1 x2 x3] 31) _ hBr).trans hinv.cell
      have cN := blk_cell hN
      have fN : ∀ j, (wr.alloc (.cells #[.int .i64 z1, .string z2, .int .i64 z3, .slice y1 y2 y3, .slice y4 y5 y6, .slice y7 y8 y9, .slice x1 x2 x3] 31)).frozen? ⟨BE, j, none⟩ = false := fun j => blk_frozen hN
      obtain ⟨r0, r1, r2, r3, r4, r5, r6⟩ := (⟨cN 0, cN 1, cN 2, cN 3, cN 4, cN 5, cN 6⟩ : _ ∧ _ ∧ _ ∧ _ ∧ _ ∧ _ ∧ _)
      obtain ⟨t0, t1, t2, t3, t4, t5, t6⟩ := (⟨fN 0, fN 1, fN 2, fN 3, fN 4, fN 5, fN 6⟩ : _ ∧ _ ∧ _ ∧ _ ∧ _ ∧ _ ∧ _)
      clear cT' cN fN hinv hN fT
      go_wp2_with fail
      go_roundw
      case rel => exact ⟨k + 1, _, _, _, _, _, _, _, _, _, _, _, _, _, _, _, by go_num, by omega, HInv.out.step⟩
      case measure => simp [intOf]; omega
    · have hkn : k = more % 300 := by omega
      have HCellT := Lib.hid hinv.cell
      clear cT' hinv q0 q1 q2 q3 q4 q5 q6
      have hz := HInv.out.keeps.size
      have hVE : ExV wr (fun k => k < wr.heap.size) (funN k (ofE l)) (.agg #[.int .i64 z1, .string z2, .int .i64 z3, .slice y1 y2 y3, .slice y4 y5 y6, .slice y7 y8 y9, .slice x1 x2 x3]) := ExV.keep (fun j hj => ⟨hj.1, rfl⟩) _ _ HInv.out.val
      have hbw : Below w.heap.size w wr := HBw.out.trans (HInv.out.keeps.below HBw.out.size (fun i hi e => by have := HBz.out; have := HW0.out; omega))
      have HBwr := Lib.hid hbw
      have hN1 : (funN k (ofE l)).size ≤ 1500 ∧ (funN k (ofE l)).tsize ≤ 1400 := by
        rw [funN_size, funN_tsize]
        have h1 := ofE_small l
        have h2 := HG1.out
        have : more % 300 < 300 := Nat.mod_lt _ (by omega)
        simp [greatB] at h2
        omega
      obtain ⟨F, hF⟩ : ∃ E, E = funN k (ofE l) := ⟨_, rfl⟩
      rw [← hF] at hVE hN1
      have HC1 : Hid (∀ W, BelC wr W → Calls Try.prog 12 #[.agg #[.int .i64 z1, .string z2, .int .i64 z3, .slice y1 y2 y3, .slice y4 y5 y6, .slice y7 y8 y9, .slice x1 x2 x3]] W fun e w' => e = .returned (.int .i64 (checkCode F)) ∧ BelC wr w') := Lib.hid fun W hb =>
        (check_any W (fun k => k < W.heap.size) F _ (fun _ h => h) (ExV.later hb hVE) (by omega) (by omega)).mono fun _ _ h => ⟨h.1, Below.trans hb (h.2.mono (Below.size hb))⟩
      have HC2 : Hid (∀ W, BelC wr W → Calls Try.prog 13 #[.agg #[.int .i64 z1, .string z2, .int .i64 z3, .slice y1 y2 y3, .slice y4 y5 y6, .slice y7 y8 y9, .slice x1 x2 x3]] W fun e w' => e = .returned (.int .i64 (checkCode F)) ∧ BelC wr w') := Lib.hid fun W hb =>
        (rcheck_any F W (fun k => k < W.heap.size) _ (by omega) (by omega) (fun _ h => h) (ExV.later hb hVE)).mono fun _ _ h => ⟨h.1, Below.trans hb (h.2.mono (Below.size hb))⟩
      have HS1 : Hid (∀ W, BelC wr W → Calls Try.prog 14 #[.agg #[.int .i64 z1, .string z2, .int .i64 z3, .slice y1 y2 y3, .slice y4 y5 y6, .slice y7 y8 y9, .slice x1 x2 x3]] W fun e w' => e = .returned (.int .i64 F.size) ∧ BelC wr w') := Lib.hid fun W hb =>
        (size_any W (fun k => k < W.heap.size) F _ (fun _ h => h) (ExV.later hb hVE) (by omega)).mono fun _ _ h => ⟨h.1, Below.trans hb (h.2.mono (Below.size hb))⟩
      have HS2 : Hid (∀ W, BelC wr W → Calls Try.prog 15 #[.agg #[.int .i64 z1, .string z2, .int .i64 z3, .slice y1 y2 y3, .slice y4 y5 y6, .slice y7 y8 y9, .slice x1 x2 x3]] W fun e w' => e = .returned (.int .i64 F.size) ∧ BelC wr w') := Lib.hid fun W hb =>
        (rsize_any 1000000 F W (fun k => k < W.heap.size) _ (by omega) (Nat.le_refl _) (fun _ h => h) (ExV.later hb hVE)).mono fun _ _ h => ⟨h.1, Below.trans hb (h.2.mono (Below.size hb))⟩
      have HD1 : Hid (∀ W, BelC wr W → Calls Try.prog 16 #[.agg #[.int .i64 z1, .string z2, .int .i64 z3, .slice y1 y2 y3, .slice y4 y5 y6, .slice y7 y8 y9, .slice x1 x2 x3]] W fun e w' => e = .returned (.int .i64 F.deep) ∧ BelC wr w') := Lib.hid fun W hb =>
        (deep_any W (fun k => k < W.heap.size) F _ (fun _ h => h) (ExV.later hb hVE) (by omega)).mono fun _ _ h => ⟨h.1, Below.trans hb (h.2.mono (Below.size hb))⟩
      have HD2 : Hid (∀ W, BelC wr W → Calls Try.prog 17 #[.agg #[.int .i64 z1, .string z2, .int .i64 z3, .slice y1 y2 y3, .slice y4 y5 y6, .slice y7 y8 y9, .slice x1 x2 x3]] W fun e w' => e = .returned (.int .i64 F.deep) ∧ BelC wr w') := Lib.hid fun W hb =>
        (rdeep_any 1000000 F W (fun k => k < W.heap.size) _ (by omega) (Nat.le_refl _) (fun _ h => h) (ExV.later hb hVE)).mono fun _ _ h => ⟨h.1, Below.trans hb (h.2.mono (Below.size hb))⟩
      have HV1 : Hid (∀ W, BelC wr W → Calls Try.prog 18 #[.agg #[.int .i64 z1, .string z2, .int .i64 z3, .slice y1 y2 y3, .slice y4 y5 y6, .slice y7 y8 y9, .slice x1 x2 x3]] W fun e w' => e = .returned (.bool F.value) ∧ BelC wr w') := Lib.hid fun W hb =>
        (value_any W (fun k => k < W.heap.size) F _ (fun _ h => h) (ExV.later hb hVE) (by omega)).mono fun _ _ h => ⟨h.1, Below.trans hb (h.2.mono (Below.size hb))⟩
      have HV2 : Hid (∀ W, BelC wr W → Calls Try.prog 19 #[.agg #[.int .i64 z1, .string z2, .int .i64 z3, .slice y1 y2 y3, .slice y4 y5 y6, .slice y7 y8 y9, .slice x1 x2 x3]] W fun e w' => e = .returned (.bool F.value) ∧ BelC wr w') := Lib.hid fun W hb =>
        (rvalue_any F.size F W (fun k => k < W.heap.size) _ _ (Nat.le_refl _) (fun _ h => h) (ExV.later hb hVE) rfl).mono fun _ _ h => ⟨h.1, Below.trans hb (h.2.mono (Below.size hb))⟩
      have hcell : ∀ W, BelC wr W → (∀ j, W.cell? ⟨BE, j, none⟩ = (#[.int .i64 z1, .string z2, .int .i64 z3, .slice y1 y2 y3, .slice y4 y5 y6, .slice y7 y8 y9, .slice x1 x2 x3] : Array Value)[j]?) := fun W hW => blk_cell ((Below.block hW _ hBr).trans HCellT.out)
      have HC := Lib.hid hcell
      clear hcell hF hN1 hVE hbw hz HInv HInv0
      have hx0 := HC.out wr (BelC.refl _)
      go_wp2_with fail
      go_region_held3 (fun W => (∀ j, W.cell? ⟨BE, j, none⟩ = (#[.int .i64 z1, .string z2, .int .i64 z3, .slice y1 y2 y3, .slice y4 y5 y6, .slice y7 y8 y9, .slice x1 x2 x3] : Array Value)[j]?))
        (first | exact hx0 | (refine HC.out _ ?_; (· repeat (first | assumption | exact BelC.refl _ | refine BelC.alloc ?_ _ | refine BelC.drew ?_ | refine BelC.drewN ?_ _))))
        (first | (go_at_call 12; with_reducible refine (HC1.out _ ?_).mono ?_; (· repeat (first | assumption | exact BelC.refl _ | refine BelC.alloc ?_ _ | refine BelC.drew ?_ | refine BelC.drewN ?_ _)); rintro e w11 ⟨rfl, hb11⟩) | (go_at_call 13; with_reducible refine (HC2.out _ ?_).mono ?_; (· repeat (first | assumption | exact BelC.refl _ | refine BelC.alloc ?_ _ | refine BelC.drew ?_ | refine BelC.drewN ?_ _)); rintro e w12 ⟨rfl, hb12⟩) | (go_at_call 14; with_reducible refine (HS1.out _ ?_).mono ?_; (· repeat (first | assumption | exact BelC.refl _ | refine BelC.alloc ?_ _ | refine BelC.drew ?_ | refine BelC.drewN ?_ _)); rintro e w13 ⟨rfl, hb13⟩) | (go_at_call 15; with_reducible refine (HS2.out _ ?_).mono ?_; (· repeat (first | assumption | exact BelC.refl _ | refine BelC.alloc ?_ _ | refine BelC.drew ?_ | refine BelC.drewN ?_ _)); rintro e w14 ⟨rfl, hb14⟩) | (go_at_call 16; with_reducible refine (HD1.out _ ?_).mono ?_; (· repeat (first | assumption | exact BelC.refl _ | refine BelC.alloc ?_ _ | refine BelC.drew ?_ | refine BelC.drewN ?_ _)); rintro e w15 ⟨rfl, hb15⟩) | (go_at_call 17; with_reducible refine (HD2.out _ ?_).mono ?_; (· repeat (first | assumption | exact BelC.refl _ | refine BelC.alloc ?_ _ | refine BelC.drew ?_ | refine BelC.drewN ?_ _)); rintro e w16 ⟨rfl, hb16⟩) | (go_at_call 18; with_reducible refine (HV1.out _ ?_).mono ?_; (· repeat (first | assumption | exact BelC.refl _ | refine BelC.alloc ?_ _ | refine BelC.drew ?_ | refine BelC.drewN ?_ _)); rintro e w17 ⟨rfl, hb17⟩) | (go_at_call 19; with_reducible refine (HV2.out _ ?_).mono ?_; (· repeat (first | assumption | exact BelC.refl _ | refine BelC.alloc ?_ _ | refine BelC.drew ?_ | refine BelC.drewN ?_ _)); rintro e w18 ⟨rfl, hb18⟩))
      go_wp2
      go_ret
      exact ⟨rfl, HBwr.out.trans (Below.mono hb18 HBwr.out.size)⟩

end Go.Proofs.Ythgbldkcgfggfaa
