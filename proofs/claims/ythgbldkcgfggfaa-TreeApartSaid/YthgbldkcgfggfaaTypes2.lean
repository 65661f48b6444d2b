/-
  trefoillaw02.TreeTypes: the walk.
-/
import Derived.Test.YthgbldkcgfggfaaTypes1
import Derived.Test.YthgbldkcgfggfaaRDeep
namespace Go.Proofs.Ythgbldkcgfggfaa
open Go.RowKit

theorem tys_get : ∀ (l : List Ty) (k : Nat) (h : k < l.length), l[k].size ≤ Ty.sizes l
  | e :: r, 0, _ => by simp [Ty.sizes]
  | e :: r, k + 1, h => by have := tys_get r k (by simpa using h); simp only [List.getElem_cons_succ, Ty.sizes]; omega
theorem TyV.parts {w : World} {S : Nat → Prop} {t : Ty} {z1 : Int} {z2 : ByteArray} {z3 z6 : Option Addr} {z4 z5 z7 z8 : Nat} {z9 : Bool} (h : TyV w S t (.agg #[.int .i64 z1, .string z2, .slice z3 z4 z5, .slice z6 z7 z8, .bool z9])) :
    z4 = t.args.length ∧ z4 ≤ z5 ∧ z5 ≤ maxLen ∧ TysO w S t.args z3 := by
  cases t
  unfold TyV at h
  obtain ⟨aA, cA, aL, cL, e, h0, h1, h2, h3, h4, h5, h6⟩ := h
  simp only [Value.agg.injEq, Array.mk.injEq, List.cons.injEq, Value.slice.injEq] at e
  obtain ⟨rfl, rfl, rfl⟩ := e.2.2.1
  exact ⟨rfl, h1, h2, h5⟩
section
variable {wB W : World} {x : Ex} {t : Ty} {ka na z1 : Int} {sa z2 : ByteArray} {aA aN aT aM z3 z6 : Option Addr} {nA cA nN cN nT cT nM cM z4 z5 z7 z8 : Nat} {z9 : Bool}
theorem TyV.later {v : Value} (hb : BelC wB W) (h : TyV wB (fun k => k < wB.heap.size) t v) : TyV W (fun k => k < W.heap.size) t v :=
  TyV.keep (fun k hk => ⟨Nat.lt_of_lt_of_le hk hb.size, hb.block k hk⟩) _ _ h
theorem tys_one (hb : BelC wB W) (hx : TyV wB (fun k => k < wB.heap.size) t (.agg #[.int .i64 z1, .string z2, .slice z3 z4 z5, .slice z6 z7 z8, .bool z9])) {g : Nat} (hg : W.heap[g]? = some (.cells #[.int .i64 z1, .string z2, .slice z3 z4 z5, .slice z6 z7 z8, .bool z9] 42 (0, 0))) : TysO W (fun k => k < W.heap.size) [t] (some ⟨g, 0, none⟩) := by
  unfold TysO
  refine ⟨g, 0, _, rfl, (Array.getElem?_eq_some_iff.1 hg).1, cellsAt_of hg ?_, TyV.later hb hx, by unfold TysO; trivial⟩
  intro j u hu
  simpa [Value.cells] using hu
theorem chkE (hx : ExV wB (fun k => k < wB.heap.size) x (.agg #[.int .i64 ka, .string sa, .int .i64 na, .slice aA nA cA, .slice aN nN cN, .slice aT nT cT, .slice aM nM cM])) (hN : x.size ≤ 1000000) (hT : x.tsize ≤ 1000000) (r : Int) (hr : checkCode x = r) (hb : BelC wB W) :
    Calls Try.prog 12 #[.agg #[.int .i64 ka, .string sa, .int .i64 na, .slice aA nA cA, .slice aN nN cN, .slice aT nT cT, .slice aM nM cM]] W fun e w' => e = .returned (.int .i64 r) ∧ BelC wB w' :=
  (check_any W (fun k => k < W.heap.size) x _ (fun _ h => h) (ExV.later hb hx) hN hT).mono fun _ _ h => ⟨by rw [← hr]; exact h.1, Below.trans hb (h.2.mono hb.size)⟩
theorem chkT (hx : TyV wB (fun k => k < wB.heap.size) t (.agg #[.int .i64 z1, .string z2, .slice z3 z4 z5, .slice z6 z7 z8, .bool z9])) (hN : t.size ≤ 1000000) (r : Int) (hr : tcheck t = r) (hb : BelC wB W) :
    Calls Try.prog 25 #[.agg #[.int .i64 z1, .string z2, .slice z3 z4 z5, .slice z6 z7 z8, .bool z9]] W fun e w' => e = .returned (.int .i64 r) ∧ BelC wB w' :=
  (checkType_any W (fun k => k < W.heap.size) t _ (fun _ h => h) (TyV.later hb hx) hN).mono fun _ _ h => ⟨by rw [← hr, ← tcode_one]; exact h.1, Below.trans hb (h.2.mono hb.size)⟩
theorem deepE (hx : ExV wB (fun k => k < wB.heap.size) x (.agg #[.int .i64 ka, .string sa, .int .i64 na, .slice aA nA cA, .slice aN nN cN, .slice aT nT cT, .slice aM nM cM])) (hN : x.size ≤ 1000000) (hb : BelC wB W) :
    Calls Try.prog 16 #[.agg #[.int .i64 ka, .string sa, .int .i64 na, .slice aA nA cA, .slice aN nN cN, .slice aT nT cT, .slice aM nM cM]] W fun e w' => e = .returned (.int .i64 x.deep) ∧ BelC wB w' :=
  (deep_any W (fun k => k < W.heap.size) x _ (fun _ h => h) (ExV.later hb hx) hN).mono fun _ _ h => ⟨h.1, Below.trans hb (h.2.mono hb.size)⟩
end

set_option maxRecDepth 100000 in
set_option maxHeartbeats 4000000 in
theorem types_main (w : World) (S : Nat → Prop) (l : List Part) (A1 : Option Addr) (c1 : Nat) (n more : Nat) (_hn : n < 256) (hmore : more < 65536) (hS : ∀ k, S k → k < w.heap.size) (hl : PtsO w S l A1) (hlc : l.length ≤ c1) (hc1 : c1 ≤ 10000000000000) (hg1 : greatB l = false) :
    Calls Try.prog 7 #[.slice A1 l.length c1, .int .u8 n, .int .u16 more] w fun e w' => e = .returned (.bool true) ∧ Below w.heap.size w w' := by
  have HS := Lib.hid hS
  have HL := Lib.hid hl
  have HG1 := Lib.hid hg1
  clear hl hS hg1
  go_enter Try.func7, Try.ntmps7
  go_wp2_with fail
  refine (alive_any w).mono ?_
  rintro e w1 ⟨rfl, hb1⟩
  have HB1 := Lib.hid hb1
  clear hb1
  go_wp2_with fail
  obtain ⟨p1, p2⟩ := pts_later HS.out HB1.out HL.out
  refine (great_r w1 S l A1 c1 false p1 p2 hlc hc1 HG1.out).mono ?_
  rintro e w2 ⟨rfl, hb2⟩
  have HB2 := Lib.hid (HB1.out.trans (hb2.mono HB1.out.size))
  clear hb2 p1 p2
  go_wp2_with fail
  obtain ⟨p1, p2⟩ := pts_later HS.out HB2.out HL.out
  refine (of_any l w2 S A1 c1 p1 p2 hlc hc1).mono ?_
  rintro e w3 ⟨va, ua, rfl, hva, hb3⟩
  obtain ⟨ka, sa, na, aA, nA, cA, aN, nN, cN, aT, nT, cT, aM, nM, cM, rfl⟩ := hva.form
  have HVA := Lib.hid hva
  have HB3 := Lib.hid (HB2.out.trans (hb3.mono HB2.out.size))
  clear hb3 p1 p2 hva
  go_wp2_with fail
  refine (typeOf_any n _).mono ?_
  rintro e w4 ⟨tv, rfl, ht, hb4⟩
  obtain ⟨b1, b2, b3, b4, b5, b6, b7, b8, b9, rfl⟩ := ht.form
  have HT := Lib.hid ht
  have hz4 := hb4.size
  have HB4 := Lib.hid hb4
  clear hb4 ht
  go_wp2_with fail
  obtain ⟨wB, hwB⟩ : ∃ wB, wB = w4.alloc (.cells #[.int .i64 b1, .string b2, .slice b3 b4 b5, .slice b6 b7 b8, .bool b9] 42) := ⟨_, rfl⟩
  have hz4' : w3.heap.size + 1 ≤ w4.heap.size := by simpa using hz4
  have hBz : wB.heap.size = w4.heap.size + 1 := by rw [hwB]; simp
  have hBA : wB.heap[w3.heap.size]? = some (.cells #[.int .i64 ka, .string sa, .int .i64 na, .slice aA nA cA, .slice aN nN cN, .slice aT nT cT, .slice aM nM cM] 31 (0, 0)) := by
    rw [hwB]; exact (heap_past _ _ _ (by omega)).trans ((HB4.out.block _ (by simp)).trans (heap_at _ _ _ rfl))
  have hBB : wB.heap[w4.heap.size]? = some (.cells #[.int .i64 b1, .string b2, .slice b3 b4 b5, .slice b6 b7 b8, .bool b9] 42 (0, 0)) := by
    rw [hwB]; exact heap_at _ _ _ rfl
  have hBw : Below w.heap.size w wB := by
    rw [hwB]
    have h4 := HB3.out.size
    exact ((HB3.out.alloc h4 _).trans (HB4.out.mono (by simp; omega))).alloc (by omega) _
  have hVA : ExV wB (fun k => k < wB.heap.size ∧ k ≠ w4.heap.size) (ofE l) (.agg #[.int .i64 ka, .string sa, .int .i64 na, .slice aA nA cA, .slice aN nN cN, .slice aT nT cT, .slice aM nM cM]) := by
    refine ExV.keep (fun k hk => ⟨⟨by have := hk.2; omega, by have := hk.2; omega⟩, ?_⟩) _ _ HVA.out
    have h2 := hk.2
    rw [hwB]; exact (heap_past _ _ _ (by omega)).trans ((HB4.out.block _ (by simp; omega)).trans (heap_past _ _ _ h2))
  have hVT : TyV wB (fun k => k < wB.heap.size ∧ k ≠ w4.heap.size) (typeOf n) (.agg #[.int .i64 b1, .string b2, .slice b3 b4 b5, .slice b6 b7 b8, .bool b9]) := by
    refine TyV.keep (fun k hk => ⟨⟨by have := hk.2; omega, by have := hk.2; omega⟩, ?_⟩) _ _ HT.out
    have h2 := hk.2
    rw [hwB]; exact heap_past _ _ _ h2
  have hinv0 : AsInv wB wB w4.heap.size (typeOf n) 0 (.int .i64 b1) (.string b2) (.slice b3 b4 b5) (.slice b6 b7 b8) (.bool b9) := ⟨Keeps.refl _ _, hBB, hVT⟩
  clear HVA HT
  have HVA := Lib.hid hVA
  have HInv0 := Lib.hid hinv0
  have HBA := Lib.hid hBA
  have HBw := Lib.hid hBw
  have HBz := Lib.hid (by omega : w3.heap.size < w4.heap.size ∧ w4.heap.size < wB.heap.size)
  have HB0 := Lib.hid (HB3.out.size : w.heap.size ≤ w3.heap.size)
  rw [← hwB]
  clear hwB hBA hBB hBw hVA hVT hinv0 HB4 HB3 HB2 HB1 hBz hz4 hz4'
  obtain ⟨BA, hBA⟩ : ∃ BA, BA = w3.heap.size := ⟨_, rfl⟩
  obtain ⟨BT, hBT⟩ : ∃ BT, BT = w4.heap.size := ⟨_, rfl⟩
  rw [← hBA] at HBA HBz HB0 ⊢
  rw [← hBT] at HVA HInv0 HBz ⊢
  clear hBA hBT
  go_loopw [28] (fun i wr => ∃ (k : Nat) (z1 : Int) (z2 : ByteArray) (z3 z6 : Option Addr) (z4 z5 z7 z8 : Nat) (z9 : Bool), i = .int .u16 k ∧ k ≤ more % 300 ∧ AsInv wB wr BT (typeOf n) k (.int .i64 z1) (.string z2) (.slice z3 z4 z5) (.slice z6 z7 z8) (.bool z9)) (fun i _ => more % 300 - (intOf i).toNat)
  case atStart => exact ⟨0, _, _, _, _, _, _, _, _, _, rfl, Nat.zero_le _, HInv0.out⟩
  case round =>
    obtain ⟨k, z1, z2, z3, z6, z4, z5, z7, z8, z9, rfl, hk, hinv⟩ := hrel
    have cT' := blk_cell hinv.cell
    obtain ⟨q0, q1, q2, q3, q4⟩ := (⟨cT' 0, cT' 1, cT' 2, cT' 3, cT' 4⟩ : _ ∧ _ ∧ _ ∧ _ ∧ _)
    have HInv := Lib.hid hinv
    have hBr : BT < wr.heap.size := (Array.getElem?_eq_some_iff.1 hinv.cell).1
    by_cases hlt : k < more % 300
    · have hne : BT ≠ wr.heap.size := by omega
      have fT : ∀ j, wr.frozen? ⟨BT, j, none⟩ = false := fun j => blk_frozen hinv.cell
      obtain ⟨s0, s1, s2, s3, s4⟩ := (⟨fT 0, fT 1, fT 2, fT 3, fT 4⟩ : _ ∧ _ ∧ _ ∧ _ ∧ _)
      have hN := (heap_past wr (.cells #[.int .i64 z1, .string z2, .slice z3 z4 z5, .slice z6 z7 z8, .bool z9] 42) _ hBr).trans hinv.cell
      have cN := blk_cell hN
      have fN : ∀ j, (wr.alloc (.cells #[.int .i64 z1, .string z2, .slice z3 z4 z5, .slice z6 z7 z8, .bool z9] 42)).frozen? ⟨BT, j, none⟩ = false := fun j => blk_frozen hN
      obtain ⟨r0, r1, r2, r3, r4⟩ := (⟨cN 0, cN 1, cN 2, cN 3, cN 4⟩ : _ ∧ _ ∧ _ ∧ _ ∧ _)
      obtain ⟨t0, t1, t2, t3, t4⟩ := (⟨fN 0, fN 1, fN 2, fN 3, fN 4⟩ : _ ∧ _ ∧ _ ∧ _ ∧ _)
      clear cT' cN fN hinv hN fT
      go_wp2_with fail
      go_roundw
      case rel => exact ⟨k + 1, _, _, _, _, _, _, _, _, _, by go_num, by omega, HInv.out.next⟩
      case measure => simp [intOf]; omega
    · have hkn : k = more % 300 := by omega
      have hRA : wr.heap[BA]? = _ := (hinv.keeps.block _ (by have := HBz.out; omega) (by have := HBz.out; omega)).trans HBA.out
      have cA' := blk_cell hRA
      obtain ⟨e0, e1, e2, e3, e4, e5, e6⟩ := (⟨cA' 0, cA' 1, cA' 2, cA' 3, cA' 4, cA' 5, cA' 6⟩ : _ ∧ _ ∧ _ ∧ _ ∧ _ ∧ _ ∧ _)
      have HRA := Lib.hid hRA
      have HCellT := Lib.hid hinv.cell
      clear cT' hinv cA' hRA
      go_wp2_with fail
      have hz := HInv.out.keeps.size
      have hVA : ExV wr (fun k => k < wr.heap.size) (ofE l) (.agg #[.int .i64 ka, .string sa, .int .i64 na, .slice aA nA cA, .slice aN nN cN, .slice aT nT cT, .slice aM nM cM]) := ExV.keep (fun j hj => ⟨by have := hj.1; omega, HInv.out.keeps.block j hj.1 hj.2⟩) _ _ HVA.out
      have hVT : TyV wr (fun k => k < wr.heap.size) (asN k (typeOf n)) (.agg #[.int .i64 z1, .string z2, .slice z3 z4 z5, .slice z6 z7 z8, .bool z9]) := TyV.keep (fun j hj => ⟨hj.1, rfl⟩) _ _ HInv.out.val
      have hbw : Below w.heap.size w wr := HBw.out.trans (HInv.out.keeps.below HBw.out.size (fun i hi e => by have := HBz.out; have := HB0.out; omega))
      have HBwr := Lib.hid hbw
      have hN1 : (ofE l).size ≤ 1200 ∧ (ofE l).tsize ≤ 1400 := by
        have h1 := ofE_small l
        have h2 := HG1.out
        simp [greatB] at h2
        omega
      have hN2 : (asN k (typeOf n)).size ≤ 400 := by
        rw [asN_size]
        have := typeOf_size n
        have : more % 300 < 300 := Nat.mod_lt _ (by omega)
        omega
      obtain ⟨T, hT⟩ : ∃ T, T = asN k (typeOf n) := ⟨_, rfl⟩
      rw [← hT] at hVT hN2
      obtain ⟨E, hE⟩ : ∃ E, E = ofE l := ⟨_, rfl⟩
      rw [← hE] at hVA hN1
      have HVAr := Lib.hid hVA
      have HVTr := Lib.hid hVT
      clear hVA hVT hbw HVA HInv hT hE hz
      refine (check_any _ (fun j => j < wr.heap.size + 2) (Ex.mk 19 ⟨#[]⟩ 0 [E] [] [T] []) _ (fun j hj => by simp; omega) ?_ (by simp only [Ex.size, Ex.sizes, Mm.sizes]; omega) (by simp only [Ex.tsize, Ex.tsizes, Mm.tsizes, Ty.sizes]; omega)).mono ?_
      · have hb : BelC wr ((wr.alloc (.cells #[.int .i64 ka, .string sa, .int .i64 na, .slice aA nA cA, .slice aN nN cN, .slice aT nT cT, .slice aM nM cM] 31)).alloc (.cells #[.int .i64 z1, .string z2, .slice z3 z4 z5, .slice z6 z7 z8, .bool z9] 42)) := ((BelC.refl _).alloc _).alloc _
        unfold ExV
        refine ⟨_, 1, none, 0, _, 1, none, 0, rfl, by decide, Nat.le_refl _, by decide, Nat.le_refl _, Nat.zero_le _, Nat.le_refl _, by decide, Nat.le_refl _, Nat.zero_le _, ExsO.keep (fun j hj => ⟨by simpa using hj, rfl⟩) _ _ (exs_one hb HVAr.out ?_), by unfold StrsO; trivial, TysO.keep (fun j hj => ⟨by simpa using hj, rfl⟩) _ _ (tys_one hb HVTr.out ?_), by unfold MmsO; trivial⟩
        · exact (heap_past _ _ _ (by simp)).trans (heap_at _ _ _ rfl)
        · exact heap_at _ _ _ (by simp)
      rintro e w5 ⟨rfl, hb5⟩
      have hb5' : BelC wr w5 := Below.trans (((BelC.refl wr).alloc _).alloc _) (hb5.mono (by simp; omega))
      rw [check_annot]
      have hpx := check_codes E
      have hpy := tcheck_codes T
      obtain ⟨cx, hcx⟩ : ∃ c, c = checkCode E := ⟨_, rfl⟩
      obtain ⟨cy, hcy⟩ : ∃ c, c = tcheck T := ⟨_, rfl⟩
      rw [← hcx, ← hcy]
      rw [← hcx] at hpx
      rw [← hcy] at hpy
      obtain ⟨ca, hca⟩ : ∃ c : Int, c = if cx = 2 ∨ cy = 2 then 2 else if cx = 4 ∨ cy = 4 ∨ 200 ≤ E.deep then 4 else 0 := ⟨_, rfl⟩
      rw [← hca]
      have HCa := Lib.hid hca
      have HPx := Lib.hid hpx
      have HPy := Lib.hid hpy
      clear hca hpx hpy
      clear hb5 e0 e1 e2 e3 e4 e5 e6 q0 q1 q2 q3 q4
      have hcell : ∀ W, BelC wr W → (∀ j, W.cell? ⟨BA, j, none⟩ = (#[.int .i64 ka, .string sa, .int .i64 na, .slice aA nA cA, .slice aN nN cN, .slice aT nT cT, .slice aM nM cM] : Array Value)[j]?) ∧ (∀ j, W.cell? ⟨BT, j, none⟩ = (#[.int .i64 z1, .string z2, .slice z3 z4 z5, .slice z6 z7 z8, .bool z9] : Array Value)[j]?) := fun W hW =>
        ⟨blk_cell ((hW.block _ (by have := HBz.out; omega)).trans HRA.out), blk_cell ((hW.block _ hBr).trans HCellT.out)⟩
      have HC := Lib.hid hcell
      clear hcell
      have hx0 := HC.out w5 hb5'
      go_wp2_with fail
      go_region_held3 (fun W => (∀ j, W.cell? ⟨BA, j, none⟩ = (#[.int .i64 ka, .string sa, .int .i64 na, .slice aA nA cA, .slice aN nN cN, .slice aT nT cT, .slice aM nM cM] : Array Value)[j]?) ∧ (∀ j, W.cell? ⟨BT, j, none⟩ = (#[.int .i64 z1, .string z2, .slice z3 z4 z5, .slice z6 z7 z8, .bool z9] : Array Value)[j]?))
        (first | exact hx0 | (refine HC.out _ ?_; (· repeat (first | assumption | exact BelC.refl _ | refine BelC.alloc ?_ _ | refine BelC.drew ?_))))
        (first | (go_at_call 12; with_reducible refine (chkE (wB := wr) HVAr.out ?_ ?_ cx hcx.symm ?_).mono ?_; (· omega); (· omega); (· repeat (first | assumption | exact BelC.refl _ | refine BelC.alloc ?_ _ | refine BelC.drew ?_)); rintro e w6 ⟨rfl, hb6⟩) | (go_at_call 25; with_reducible refine (chkT (wB := wr) HVTr.out ?_ cy hcy.symm ?_).mono ?_; (· omega); (· repeat (first | assumption | exact BelC.refl _ | refine BelC.alloc ?_ _ | refine BelC.drew ?_)); rintro e w7 ⟨rfl, hb7⟩))
      rw [← hcx, ← hcy]
      obtain ⟨wO, rfl⟩ : ∃ wO, wO = wr := ⟨_, rfl⟩
      obtain ⟨hpa, hpl, hpm, hpt⟩ := TyV.parts HVTr.out
      subst hpa
      have HPt := Lib.hid hpt
      have HTP := Lib.hid (tcheck_part T)
      unfold maxLen at hpm
      have hcase : (cx = 2 ∧ cy = 0 ∧ ca = 2) ∨ (cx = 2 ∧ cy = 2 ∧ ca = 2) ∨ (cx = 2 ∧ cy = 4 ∧ ca = 2) ∨ (cx = 0 ∧ cy = 2 ∧ ca = 2) ∨ (cx = 4 ∧ cy = 2 ∧ ca = 2) ∨ (cx = 0 ∧ cy = 4 ∧ ca = 4) ∨ (cx = 4 ∧ cy = 0 ∧ ca = 4) ∨ (cx = 4 ∧ cy = 4 ∧ ca = 4) ∨ (cx = 0 ∧ cy = 0 ∧ ca = 4 ∧ 200 ≤ E.deep) ∨ (cx = 0 ∧ cy = 0 ∧ ca = 0) := by
        have h1 := HCa.out
        rcases HPx.out with h2 | h2 | h2 <;> rcases HPy.out with h3 | h3 | h3 <;> rw [h2, h3] at h1 <;> simp at h1 <;> simp [h2, h3, h1]
        by_cases h4 : 200 ≤ E.deep
        · simp [h4]
        · simp [h4]; omega
      have hd9 : E.deep ≤ 1000000 := by have := Ex.deep_le E; omega
      clear hpt HCa HPx HPy hb5' hx0
      rcases hcase with ⟨rfl, rfl, rfl⟩ | ⟨rfl, rfl, rfl⟩ | ⟨rfl, rfl, rfl⟩ | ⟨rfl, rfl, rfl⟩ | ⟨rfl, rfl, rfl⟩ | ⟨rfl, rfl, rfl⟩ | ⟨rfl, rfl, rfl⟩ | ⟨rfl, rfl, rfl⟩ | ⟨rfl, rfl, rfl, hdeep⟩ | ⟨rfl, rfl, rfl⟩
      all_goals
        obtain ⟨hcA, hcT⟩ := HC.out w7 hb7
        obtain ⟨e0, e1, e2, e3, e4, e5, e6⟩ := (⟨hcA 0, hcA 1, hcA 2, hcA 3, hcA 4, hcA 5, hcA 6⟩ : _ ∧ _ ∧ _ ∧ _ ∧ _ ∧ _ ∧ _)
        have q2 := hcT 2
        clear hcA hcT
        go_wp2_with (go_at_call 16; with_reducible refine (deepE (wB := wO) HVAr.out ?_ ?_).mono ?_; (· omega); (· repeat (first | assumption | exact BelC.refl _ | refine BelC.alloc ?_ _ | refine BelC.drew ?_)); rintro e w8 ⟨rfl, hb8⟩; have q2 := (HC.out w8 hb8).2 2)
      all_goals
        go_loopw [14, 86] (fun _ i wq => ∃ j : Nat, i = .int .i64 j ∧ j ≤ T.args.length ∧ BelC wO wq) (fun _ i _ => T.args.length - (intOf i).toNat)
        case atStart => exact ⟨0, rfl, Nat.zero_le _, by first | assumption⟩
        case round =>
          obtain ⟨j, rfl, hj, hbj⟩ := hrel
          by_cases hlt2 : j < T.args.length
          · obtain ⟨bp, op, rfl, hp⟩ := TysO.get _ _ (TysO.keep (S' := fun k => k < wO.heap.size) (fun k hk => ⟨hk, hbj.block k hk⟩) _ _ HPt.out) j hlt2
            have hcode := fun h => HTP.out h j hlt2
            have hsz := tys_get T.args j hlt2
            have hsz2 := Ty.size_eq T
            obtain ⟨U, hU⟩ : ∃ U, U = T.args[j] := ⟨_, rfl⟩
            rw [← hU] at hp hcode hsz
            obtain ⟨xA, yA, xL, yL, r0, r1, r2, r3, r4, hv⟩ := hp.val
            have HV := Lib.hid (TyV.keep (fun k hk => ⟨Nat.lt_of_lt_of_le hk hbj.size, rfl⟩) _ _ hv : TyV wr (fun k => k < wr.heap.size) U (.agg #[.int .i64 U.kind, .string U.str, .slice xA U.args.length yA, .slice xL U.labels.length yL, .bool U.op]))
            have HCode := Lib.hid hcode
            have HBj := Lib.hid hbj
            have hU9 : U.size ≤ 1000000 := by omega
            clear hv hp hU hcode hbj
            go_wp2_with (go_at_call 25; with_reducible refine (chkT (wB := wr) HV.out hU9 0 (HCode.out ?_) ?_).mono ?_; (· exact hcy.symm); (· exact (BelC.refl _).alloc _); rintro e w9 ⟨rfl, hb9⟩)
            go_roundw
            case rel => first | exact ⟨j + 1, by go_num, by omega, Below.trans HBj.out (hb9.mono HBj.out.size)⟩ | exact ⟨j + 1, by go_num, by omega, HBj.out.alloc _⟩
            case measure => simp [intOf]; omega
          · have hje : j = T.args.length := by omega
            go_wp2_with fail
            go_ret
            exact ⟨rfl, HBwr.out.trans (Below.mono hbj HBwr.out.size)⟩
end Go.Proofs.Ythgbldkcgfggfaa
