/-
  trefoillaw02.TreeApart: the walk, the text changed.
-/
import Derived.Test.YthgbldkcgfggfaaApart
namespace Go.Proofs.Ythgbldkcgfggfaa
open Go.RowKit

set_option maxRecDepth 100000 in
set_option maxHeartbeats 4000000 in
theorem apart_1 (w : World) (S : Nat → Prop) (l : List Part) (A1 : Option Addr) (c1 wh : Nat) (hwh : wh < 256) (hcase : (wh : Int) % 7 = 1) (hS : ∀ k, S k → k < w.heap.size) (hl : PtsO w S l A1) (hlc : l.length ≤ c1) (hc1 : c1 ≤ 10000000000000) (hg1 : greatB l = false) :
    Calls Try.prog 6 #[.slice A1 l.length c1, .int .u8 wh] w fun e w' => e = .returned (.bool true) ∧ Below w.heap.size w w' := by
  have HS := Lib.hid hS
  have HL := Lib.hid hl
  have HG1 := Lib.hid hg1
  clear hl hS hg1
  go_enter Try.func6, Try.ntmps6
  go_wp2_with fail
  refine (alive_any w).mono ?_
  rintro e w1 ⟨rfl, hb1⟩
  have HB1 := Lib.hid hb1
  clear hb1
  go_wp2_with fail
  obtain ⟨p1, p2⟩ := pts_later HS.out HB1.out HL.out
  refine (great_r w1 S l A1 c1 false p1 p2 hlc hc1 HG1.out).mono ?_
  rintro e w2 ⟨rfl, hb2⟩
  have HB2 := Lib.hid (HB1.out.trans (hb2.mono HB1.out.size))
  clear hb2 p1 p2
  go_wp2_with fail
  obtain ⟨p1, p2⟩ := pts_later HS.out HB2.out HL.out
  refine (of_any l w2 S A1 c1 p1 p2 hlc hc1).mono ?_
  rintro e w3 ⟨va, ua, rfl, hva, hb3⟩
  obtain ⟨ka, sa, na, aA, nA, cA, aN, nN, cN, aT, nT, cT, aM, nM, cM, rfl⟩ := hva.form
  obtain ⟨hka, hsa, hna⟩ := ExV.heads hva
  have hk1 := ofE_kind l
  have hs1 := ofE_str l HG1.out
  rw [← hka] at hk1
  rw [← hsa] at hs1
  have HVA := Lib.hid hva
  have HB3 := Lib.hid (HB2.out.trans (hb3.mono HB2.out.size))
  clear hb3 p1 p2 hva hka hsa hna
  have hN1 : (ofE l).size ≤ 1200 ∧ (ofE l).tsize ≤ 1400 := by
    have h1 := ofE_small l
    have h2 := HG1.out
    simp [greatB] at h2
    omega
  go_wp2_with fail
  obtain ⟨p1, p2⟩ := pts_later HS.out (Below.alloc (HB3.out.alloc HB3.out.size _) (by have := HB3.out.size; simp; omega) _ : Below w.heap.size w ((w3.alloc (.cells #[.int .i64 ka, .string sa, .int .i64 na, .slice aA nA cA, .slice aN nN cN, .slice aT nT cT, .slice aM nM cM] 31)).alloc (.cells #[.int .i64 ka, .string (sa ++ ⟨#[120]⟩), .int .i64 na, .slice aA nA cA, .slice aN nN cN, .slice aT nT cT, .slice aM nM cM] 31))) HL.out
  refine (of_any l _ S A1 c1 p1 p2 hlc hc1).mono ?_
  rintro e w5 ⟨vy, uy, rfl, hvy, hb5⟩
  obtain ⟨kb, sb, nb, bA, mA, dA, bN, mN, dN, bT, mT, dT, bM, mM, dM, rfl⟩ := hvy.form
  have HVY := Lib.hid hvy
  have HB5 := Lib.hid hb5
  have hz5 := hb5.size
  clear hvy hb5 p1 p2
  go_wp2_with fail
  obtain ⟨wF, hwF⟩ : ∃ wF, wF = w5.alloc (.cells #[.int .i64 kb, .string sb, .int .i64 nb, .slice bA mA dA, .slice bN mN dN, .slice bT mT dT, .slice bM mM dM] 31) := ⟨_, rfl⟩
  have hz5' : w3.heap.size + 2 ≤ w5.heap.size := by simpa using hz5
  have hFz : wF.heap.size = w5.heap.size + 1 := by rw [hwF]; simp
  have hFE : wF.heap[w3.heap.size]? = some (.cells #[.int .i64 ka, .string sa, .int .i64 na, .slice aA nA cA, .slice aN nN cN, .slice aT nT cT, .slice aM nM cM] 31 (0, 0)) := by
    rw [hwF]; exact (heap_past _ _ _ (by omega)).trans ((HB5.out.block _ (by simp <;> omega)).trans ((heap_past _ _ _ (by simp <;> omega)).trans (heap_at _ _ _ rfl)))
  have hFX : wF.heap[w3.heap.size + 1]? = some (.cells #[.int .i64 ka, .string (sa ++ ⟨#[120]⟩), .int .i64 na, .slice aA nA cA, .slice aN nN cN, .slice aT nT cT, .slice aM nM cM] 31 (0, 0)) := by
    rw [hwF]; exact (heap_past _ _ _ (by omega)).trans ((HB5.out.block _ (by simp <;> omega)).trans (heap_at _ _ _ (by simp)))
  have hFY : wF.heap[w5.heap.size]? = some (.cells #[.int .i64 kb, .string sb, .int .i64 nb, .slice bA mA dA, .slice bN mN dN, .slice bT mT dT, .slice bM mM dM] 31 (0, 0)) := by
    rw [hwF]; exact heap_at _ _ _ rfl
  have hFw : Below w.heap.size w wF := by
    rw [hwF]
    have h3 := HB3.out.size
    exact ((Below.alloc (HB3.out.alloc h3 _) (by simp; omega) _).trans (HB5.out.mono (by simp; omega))).alloc (by omega) _
  have hVE : ExV wF (fun k => k < wF.heap.size) (ofE l) (.agg #[.int .i64 ka, .string sa, .int .i64 na, .slice aA nA cA, .slice aN nN cN, .slice aT nT cT, .slice aM nM cM]) := by
    refine ExV.keep (fun k hk => ⟨by have := hk.2; omega, ?_⟩) _ _ HVA.out
    have h2 := hk.2
    rw [hwF]; exact (heap_past _ _ _ (by omega)).trans ((HB5.out.block _ (by simp; omega)).trans ((heap_past _ _ _ (by simp; omega)).trans (heap_past _ _ _ h2)))
  have hVX : ExV wF (fun k => k < wF.heap.size) (Ex.mk ka (sa ++ ⟨#[120]⟩) na (ofE l).args (ofE l).names (ofE l).types (ofE l).mems) (.agg #[.int .i64 ka, .string (sa ++ ⟨#[120]⟩), .int .i64 na, .slice aA nA cA, .slice aN nN cN, .slice aT nT cT, .slice aM nM cM]) := ExV.with3 hVE (ka) (na) (sa ++ ⟨#[120]⟩) (by rw [ByteArray.size_append]; have : (⟨#[120]⟩ : ByteArray).size = 1 := rfl; unfold maxLen; omega)
  have hVY : ExV wF (fun k => k < wF.heap.size) (ofE l) (.agg #[.int .i64 kb, .string sb, .int .i64 nb, .slice bA mA dA, .slice bN mN dN, .slice bT mT dT, .slice bM mM dM]) := by
    refine ExV.keep (fun k hk => ⟨by have := hk.2; omega, ?_⟩) _ _ HVY.out
    have h2 := hk.2
    rw [hwF]; exact heap_past _ _ _ h2
  have hXs : ((Ex.mk ka (sa ++ ⟨#[120]⟩) na (ofE l).args (ofE l).names (ofE l).types (ofE l).mems)).size ≤ 2000 ∧ ((Ex.mk ka (sa ++ ⟨#[120]⟩) na (ofE l).args (ofE l).names (ofE l).types (ofE l).mems)).tsize ≤ 2000 := by have := Ex.size_mk (ofE l) (ka) (na) (sa ++ ⟨#[120]⟩); omega
  have hne : ofE l ≠ (Ex.mk ka (sa ++ ⟨#[120]⟩) na (ofE l).args (ofE l).names (ofE l).types (ofE l).mems) := by
    intro h
    have h1 : (ofE l).str = sa ++ ⟨#[120]⟩ := congrArg Ex.str h
    have h2 := (ExV.heads hVE).2.1
    rw [← h2] at h1
    have h3 := congrArg ByteArray.size h1
    rw [ByteArray.size_append] at h3
    have h4 : (⟨#[120]⟩ : ByteArray).size = 1 := rfl
    omega
  have hcell : ∀ W, BelC wF W → (∀ j, W.cell? ⟨w3.heap.size, j, none⟩ = (#[.int .i64 ka, .string sa, .int .i64 na, .slice aA nA cA, .slice aN nN cN, .slice aT nT cT, .slice aM nM cM] : Array Value)[j]?) ∧ (∀ j, W.cell? ⟨w3.heap.size + 1, j, none⟩ = (#[.int .i64 ka, .string (sa ++ ⟨#[120]⟩), .int .i64 na, .slice aA nA cA, .slice aN nN cN, .slice aT nT cT, .slice aM nM cM] : Array Value)[j]?) ∧ (∀ j, W.cell? ⟨w5.heap.size, j, none⟩ = (#[.int .i64 kb, .string sb, .int .i64 nb, .slice bA mA dA, .slice bN mN dN, .slice bT mT dT, .slice bM mM dM] : Array Value)[j]?) := fun W hW =>
    ⟨blk_cell ((hW.block _ (by omega)).trans hFE), blk_cell ((hW.block _ (by omega)).trans hFX), blk_cell ((hW.block _ (by omega)).trans hFY)⟩
  have HC := Lib.hid hcell
  have HVE := Lib.hid hVE
  have HVX := Lib.hid hVX
  have HVY' := Lib.hid hVY
  have HFw := Lib.hid hFw
  rw [← hwF]
  have hx0 := HC.out wF (BelC.refl _)
  clear hwF hFE hFX hFY hFw hVE hVX hVY hcell HVA HVY HB5 HB3 HB2 HB1
  have r1 : false = true ↔ ofE l = (Ex.mk ka (sa ++ ⟨#[120]⟩) na (ofE l).args (ofE l).names (ofE l).types (ofE l).mems) := by simp only [Bool.false_eq_true, false_iff]; exact hne
  have r2 : false = true ↔ (Ex.mk ka (sa ++ ⟨#[120]⟩) na (ofE l).args (ofE l).names (ofE l).types (ofE l).mems) = ofE l := by simp only [Bool.false_eq_true, false_iff]; exact fun h => hne h.symm
  obtain ⟨se, hse⟩ : ∃ d : Int, ((ofE l).size : Int) = d := ⟨_, rfl⟩
  go_region_held3 (fun W => (∀ j, W.cell? ⟨w3.heap.size, j, none⟩ = (#[.int .i64 ka, .string sa, .int .i64 na, .slice aA nA cA, .slice aN nN cN, .slice aT nT cT, .slice aM nM cM] : Array Value)[j]?) ∧ (∀ j, W.cell? ⟨w3.heap.size + 1, j, none⟩ = (#[.int .i64 ka, .string (sa ++ ⟨#[120]⟩), .int .i64 na, .slice aA nA cA, .slice aN nN cN, .slice aT nT cT, .slice aM nM cM] : Array Value)[j]?) ∧ (∀ j, W.cell? ⟨w5.heap.size, j, none⟩ = (#[.int .i64 kb, .string sb, .int .i64 nb, .slice bA mA dA, .slice bN mN dN, .slice bT mT dT, .slice bM mM dM] : Array Value)[j]?))
    (first | exact hx0 | (refine HC.out _ ?_; (· repeat (first | assumption | exact BelC.refl _ | refine BelC.alloc ?_ _ | refine BelC.drew ?_))))
    (first | (go_at_call 21; with_reducible refine (sameE (wB := wF) HVE.out HVX.out ?_ ?_ ?_ false r1 ?_).mono ?_; (· omega); (· omega); (· omega); (· repeat (first | assumption | exact BelC.refl _ | refine BelC.alloc ?_ _ | refine BelC.drew ?_)); rintro e w6 ⟨rfl, hb6⟩) | (go_at_call 21; with_reducible refine (sameE (wB := wF) HVX.out HVE.out ?_ ?_ ?_ false r2 ?_).mono ?_; (· omega); (· omega); (· omega); (· repeat (first | assumption | exact BelC.refl _ | refine BelC.alloc ?_ _ | refine BelC.drew ?_)); rintro e w6 ⟨rfl, hb6⟩) | (go_at_call 21; with_reducible refine (sameE (wB := wF) HVE.out HVY'.out ?_ ?_ ?_ true ⟨fun _ => rfl, fun _ => rfl⟩ ?_).mono ?_; (· omega); (· omega); (· omega); (· repeat (first | assumption | exact BelC.refl _ | refine BelC.alloc ?_ _ | refine BelC.drew ?_)); rintro e w6 ⟨rfl, hb6⟩) | (go_at_call 14; with_reducible refine (sizeE (wB := wF) HVY'.out ?_ se hse ?_).mono ?_; (· omega); (· repeat (first | assumption | exact BelC.refl _ | refine BelC.alloc ?_ _ | refine BelC.drew ?_)); rintro e w6 ⟨rfl, hb6⟩) | (go_at_call 14; with_reducible refine (sizeE (wB := wF) HVE.out ?_ se hse ?_).mono ?_; (· omega); (· repeat (first | assumption | exact BelC.refl _ | refine BelC.alloc ?_ _ | refine BelC.drew ?_)); rintro e w6 ⟨rfl, hb6⟩))
  all_goals go_wp2_with fail
  all_goals go_ret
  all_goals exact ⟨rfl, HFw.out.trans (Below.mono (by assumption) HFw.out.size)⟩

end Go.Proofs.Ythgbldkcgfggfaa
