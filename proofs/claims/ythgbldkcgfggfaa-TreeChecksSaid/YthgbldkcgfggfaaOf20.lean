/-
  trefoilref02.Of, a coercion.
-/
import Derived.Test.YthgbldkcgfggfaaSame5
import Derived.Test.YthgbldkcgfggfaaOf19
namespace Go.Proofs.Ythgbldkcgfggfaa
open Go.RowKit

theorem typeOf_z (z : Int) (n : Nat) (hz : z = n) (w : World) :
    Calls Try.prog 20 #[.int .u8 z] w fun e w' => ∃ v, e = .returned v ∧ TyV w' (New w w') (typeOf n) v ∧ Below w.heap.size w w' := by
  subst hz
  exact typeOf_any n w
theorem BelC.keeps {w w' : World} {T : Nat → Prop} (h : BelC w w') : Keeps T w w' := Keeps.of_below0 h
theorem typeOf_at (w0 : World) (z : Int) (n : Nat) (hz : z = n) (w : World) (hb : BelC w0 w) :
    Calls Try.prog 20 #[.int .u8 z] w fun e w' => ∃ v, e = .returned v ∧ TyV w' (New w w') (typeOf n) v ∧ Below w.heap.size w w' ∧ BelC w0 w' := by
  refine (typeOf_z z n hz w).mono ?_
  rintro e w' ⟨v, h1, h2, h3⟩
  exact ⟨v, h1, h2, h3, Below.trans hb (h3.mono hb.size)⟩

set_option maxRecDepth 100000 in
set_option maxHeartbeats 4000000 in
theorem of_20 (f : Nat) (ih : OfAt f) (p : Part) (l : List Part) (w : World) (S : Nat → Prop) (b o c : Nat) (hl : l.length < f) (hS : ∀ k, S k → k < w.heap.size) (hp : PtsO w S (p :: l) (some ⟨b, o, none⟩)) (hc : l.length + 1 ≤ c) (hc9 : c ≤ 10000000000000)
    (h20 : (p.k : Int) % 21 = 20) :
    Calls Try.prog 11 #[.slice (some ⟨b, o, none⟩) (l.length + 1) c] w fun e w' => ∃ v A' c', e = .returned (.tuple #[v, .slice A' (ofN (f + 1) (p :: l)).2.length c']) ∧ ExV w' (New w w') (ofN (f + 1) (p :: l)).1 v ∧ PtsO w S (ofN (f + 1) (p :: l)).2 A' ∧ (ofN (f + 1) (p :: l)).2.length ≤ c' ∧ c' ≤ c ∧ Below w.heap.size w w' := by
  have HP := Lib.hid hp
  obtain ⟨b', o', hbo, hSb, f0, f1, f2, f3, f4, hz, hr⟩ := hp
  simp only [Option.some.injEq, Addr.mk.injEq, and_true] at hbo
  obtain ⟨rfl, rfl⟩ := hbo
  have HR := Lib.hid hr
  obtain ⟨z1, z2, z3, z4⟩ := hz
  unfold maxLen at z4
  have IH := Lib.hid ih
  clear hr ih
  have hbw : b < w.heap.size := hS b hSb
  have e0 := (World.cell?_of_block (a := ⟨b, o, none⟩) (Below.heap_alloc w (.cells #[.int .i64 0, .string ⟨#[]⟩, .int .i64 0, .slice none 0 0, .slice none 0 0, .slice none 0 0, .slice none 0 0] 31) b hbw)).trans f0
  have e1 := (World.cell?_of_block (a := ⟨b, o + 1, none⟩) (Below.heap_alloc w (.cells #[.int .i64 0, .string ⟨#[]⟩, .int .i64 0, .slice none 0 0, .slice none 0 0, .slice none 0 0, .slice none 0 0] 31) b hbw)).trans f1
  have e2 := (World.cell?_of_block (a := ⟨b, o + 2, none⟩) (Below.heap_alloc w (.cells #[.int .i64 0, .string ⟨#[]⟩, .int .i64 0, .slice none 0 0, .slice none 0 0, .slice none 0 0, .slice none 0 0] 31) b hbw)).trans f2
  have e3 := (World.cell?_of_block (a := ⟨b, o + 3, none⟩) (Below.heap_alloc w (.cells #[.int .i64 0, .string ⟨#[]⟩, .int .i64 0, .slice none 0 0, .slice none 0 0, .slice none 0 0, .slice none 0 0] 31) b hbw)).trans f3
  have e4 := (World.cell?_of_block (a := ⟨b, o + 4, none⟩) (Below.heap_alloc w (.cells #[.int .i64 0, .string ⟨#[]⟩, .int .i64 0, .slice none 0 0, .slice none 0 0, .slice none 0 0, .slice none 0 0] 31) b hbw)).trans f4
  clear f0 f1 f2 f3 f4
  obtain ⟨i0, hi, hz0, hz1, hz2⟩ := info_parts infoX
  have kq0 : ((l.length : Int) + 1 == 0) = false := by simp; omega
  obtain ⟨cc, hcc⟩ : ∃ cc, cc = c := ⟨_, rfl⟩
  rcases Decidable.em (c = 1) with rfl | hc1
  all_goals
    go_enter Try.func11, Try.ntmps11
    go_wp2_with fail
    clear e0 e1 e2 e3 e4
    obtain ⟨wC, hwC⟩ : ∃ wC, wC = ((w.alloc (.cells #[.int .i64 0, .string ⟨#[]⟩, .int .i64 0, .slice none 0 0, .slice none 0 0, .slice none 0 0, .slice none 0 0] 31)).alloc (.cells #[.int .u8 p.k, .string p.s, .int .i64 p.n, .int .u8 p.a, .int .u8 p.t] 55)).alloc (.cells #[.int .i64 20, .string p.s, .int .i64 p.n, .slice none 0 0, .slice none 0 0, .slice none 0 0, .slice none 0 0] 31) := ⟨_, rfl⟩
    have hCz : wC.heap.size = w.heap.size + 3 := by rw [hwC]; simp
    have hCE : wC.heap[w.heap.size + 1 + 1]? = some (.cells #[.int .i64 20, .string p.s, .int .i64 p.n, .slice none 0 0, .slice none 0 0, .slice none 0 0, .slice none 0 0] 31 (0, 0)) := by
      rw [hwC]; exact heap_at _ _ _ (by simp)
    have hCP : wC.heap[w.heap.size + 1]? = some (.cells #[.int .u8 p.k, .string p.s, .int .i64 p.n, .int .u8 p.a, .int .u8 p.t] 55 (0, 0)) := by
      rw [hwC]; rw [heap_past _ _ _ (by simp), heap_at _ _ _ (by simp)]
    have hCR : wC.heap[w.heap.size]? = some (.cells #[.int .i64 0, .string ⟨#[]⟩, .int .i64 0, .slice none 0 0, .slice none 0 0, .slice none 0 0, .slice none 0 0] 31 (0, 0)) := by
      rw [hwC]; rw [heap_past _ _ _ (by simp <;> omega), heap_past _ _ _ (by simp), heap_at _ _ _ rfl]
    have hCw : Below w.heap.size w wC := by
      rw [hwC]; exact (((Below.refl _ w).alloc (Nat.le_refl _) _).alloc (by simp) _).alloc (by simp <;> omega) _
    have hcell : ∀ W, Keeps (fun j => j = w.heap.size + 1 + 1) wC W → W.cell? ⟨w.heap.size + 1, 4, none⟩ = some (.int .u8 p.t) := fun W hW =>
      blk_cell ((hW.block _ (by omega) (by omega)).trans hCP) 4
    have HC := Lib.hid hcell
    have HCz := Lib.hid hCz
    have HCE := Lib.hid hCE
    have HCR := Lib.hid hCR
    have HCw := Lib.hid hCw
    rw [← hwC]
    have hx0 := HC.out wC (Keeps.refl _ _)
    clear hwC hCz hCE hCP hCR hCw hcell
    have hw8 : IntKind.u8.wrap ((p.t : Int) / 8) = (p.t : Int) / 8 := IntWalk.u8_in _ (by omega)
    go_region_held3 (fun W => W.cell? ⟨w.heap.size + 1, 4, none⟩ = some (.int .u8 p.t))
      (first | exact hx0 | (refine HC.out _ ?_; (· repeat (first | exact hbelB.keeps | exact hbelA.keeps | exact Keeps.refl _ _ | refine Keeps.alloc ?_ _ | refine Keeps.drew ?_ | refine Keeps.setCell (T := fun j => j = w.heap.size + 1 + 1) ?_ (fun _ => rfl) _))))
      (first | (go_at_call 20; refine (typeOf_at wC _ p.t ?_ _ ?_).mono ?_; (· with_reducible rfl); (· repeat (first | assumption | exact BelC.refl _ | refine BelC.alloc ?_ _ | refine BelC.drew ?_)); rintro e wtA ⟨tvA, rfl, htA, hbA, hbelA⟩; obtain ⟨a1, a2, a3, a4, a5, a6, a7, a8, a9, rfl⟩ := htA.form; have hsA := hbA.size) | (go_at_call 20; refine (typeOf_at wC _ (p.t / 8) ?_ _ ?_).mono ?_; (· omega); (· repeat (first | assumption | exact BelC.refl _ | refine BelC.alloc ?_ _ | refine BelC.drew ?_)); rintro e wtB ⟨tvB, rfl, htB, hbB, hbelB⟩; obtain ⟨b1, b2, b3, b4, b5, b6, b7, b8, b9, rfl⟩ := htB.form; have hsB := hbB.size; have hsC := hbelB.size; have hE1 := (hbelB.block _ (by have := HCz.out; omega)).trans HCE.out; have g5 : (wtB.alloc (.cells #[.int .i64 a1, .string a2, .slice a3 a4 a5, .slice a6 a7 a8, .bool a9, .int .i64 b1, .string b2, .slice b3 b4 b5, .slice b6 b7 b8, .bool b9] 42)).cell? ⟨w.heap.size + 1 + 1, 5, none⟩ = some (.slice none 0 0) := blk_cell ((heap_past wtB _ _ (by have := HCz.out; omega)).trans hE1) 5; have f5 : (wtB.alloc (.cells #[.int .i64 a1, .string a2, .slice a3 a4 a5, .slice a6 a7 a8, .bool a9, .int .i64 b1, .string b2, .slice b3 b4 b5, .slice b6 b7 b8, .bool b9] 42)).frozen? ⟨w.heap.size + 1 + 1, 5, none⟩ = false := blk_frozen ((heap_past wtB _ _ (by have := HCz.out; omega)).trans hE1)))
    go_wp2_with fail
    obtain ⟨wB, hwB⟩ : ∃ wB, wB = (wtB.alloc (.cells #[.int .i64 a1, .string a2, .slice a3 a4 a5, .slice a6 a7 a8, .bool a9, .int .i64 b1, .string b2, .slice b3 b4 b5, .slice b6 b7 b8, .bool b9] 42)).setCell ⟨w.heap.size + 1 + 1, 5, none⟩ (.slice (some ⟨wtB.heap.size, 0, none⟩) 2 2) := ⟨_, rfl⟩
    have hCz := HCz.out
    have hsA' : wC.heap.size ≤ wtA.heap.size := by simpa using hsA
    have hBz : wB.heap.size = wtB.heap.size + 1 := by rw [hwB]; simp [World.setCell]
    have hBE := blk_set5 ((heap_past wtB (.cells #[.int .i64 a1, .string a2, .slice a3 a4 a5, .slice a6 a7 a8, .bool a9, .int .i64 b1, .string b2, .slice b3 b4 b5, .slice b6 b7 b8, .bool b9] 42) _ (by omega)).trans hE1) (.slice (some ⟨wtB.heap.size, 0, none⟩) 2 2)
    have hR1 := (hbelB.block w.heap.size (by omega)).trans HCR.out
    have hBR := blk_else (p := ⟨w.heap.size + 1 + 1, 5, none⟩) ((heap_past wtB (.cells #[.int .i64 a1, .string a2, .slice a3 a4 a5, .slice a6 a7 a8, .bool a9, .int .i64 b1, .string b2, .slice b3 b4 b5, .slice b6 b7 b8, .bool b9] 42) _ (by omega)).trans hR1) (by show w.heap.size ≠ w.heap.size + 1 + 1; omega) (.slice (some ⟨wtB.heap.size, 0, none⟩) 2 2)
    rw [← hwB] at hBE hBR
    have hBw : Below w.heap.size w wB := by
      rw [hwB]; exact ((HCw.out.trans (hbelB.mono HCw.out.size)).alloc (by omega) _).setCell (by simp; omega) _
    have hTy : TysO wB (fun k => w.heap.size + 3 ≤ k ∧ k < wB.heap.size) [typeOf p.t, typeOf (p.t / 8)] (some ⟨wtB.heap.size, 0, none⟩) := by
      have hnew : wB.heap[wtB.heap.size]? = some (.cells #[.int .i64 a1, .string a2, .slice a3 a4 a5, .slice a6 a7 a8, .bool a9, .int .i64 b1, .string b2, .slice b3 b4 b5, .slice b6 b7 b8, .bool b9] 42 (0, 0)) := by
        rw [hwB]; exact blk_else (heap_at _ _ _ rfl) (by simp; omega) _
      unfold TysO
      refine ⟨_, 0, _, rfl, ⟨by omega, by omega⟩, cellsAt_of hnew ?_, TyV.keep (fun k hk => ?_) _ _ htA, ?_⟩
      · intro j u hu
        rcases j with _ | _ | _ | _ | _ | j <;> simp_all [Value.cells]
      · have h1 := hk.1
        have h2 := hk.2
        simp at h1
        exact ⟨⟨by omega, by omega⟩, by rw [hwB]; exact blk_else ((heap_past _ _ _ (by omega)).trans (hbB.block k h2)) (by simp; omega) _⟩
      · unfold TysO
        refine ⟨_, 5, _, rfl, ⟨by omega, by omega⟩, cellsAt_of hnew ?_, TyV.keep (fun k hk => ?_) _ _ htB, by unfold TysO; trivial⟩
        · intro j u hu
          rcases j with _ | _ | _ | _ | _ | j <;> simp_all [Value.cells]
        · have h1 := hk.1
          have h2 := hk.2
          exact ⟨⟨by omega, by omega⟩, by rw [hwB]; exact blk_else (heap_past _ _ _ h2) (by simp; omega) _⟩
    have HTy := Lib.hid hTy
    have HBz := Lib.hid (by omega : w.heap.size + 3 ≤ wB.heap.size)
    have HBE := Lib.hid hBE
    have HBR := Lib.hid hBR
    have HBw := Lib.hid hBw
    obtain ⟨tb, htb⟩ : ∃ tb, tb = wtB.heap.size := ⟨_, rfl⟩
    rw [← hwB]
    rw [← htb] at HTy HBE ⊢
    clear hwB hBz hBE hBR hBw hTy hE1 hR1 g5 f5 htA htB hbA hbB hbelA hbelB htb hsA hsB hsC hsA' HC HCE HCR HCw HCz hCz hx0 hw8
    try simp only [kq0]
    go_loopw [0, 12, 13, 14] (fun x i _ _ wr => ∃ (k : Nat) (va : Value) (Ar : Option Addr) (cr : Nat), x = .slice Ar (ofList (ofN f) k l).2.length cr ∧ i = .int .i64 k ∧ k ≤ p.a % 4 ∧ OfInv f w wB wr (w.heap.size + 1 + 1) S l k va Ar cr cc (.int .i64 20) (.string p.s) (.int .i64 p.n) (.slice none 0 0) (.slice (some ⟨tb, 0, none⟩) 2 2) (.slice none 0 0)) (fun _ i _ _ _ => p.a % 4 - (intOf i).toNat)
    case atStart =>
      first
        | exact ⟨0, .slice none 0 0, some ⟨b, o + 5, none⟩, c - 1, rfl, rfl, Nat.zero_le _, ⟨Keeps.refl _ _, ⟨fun _ => False, RowG.nil _ _ _, fun _ h => h.elim⟩, HBE.out, HR.out, ⟨by simp only [ofList]; omega, by omega⟩⟩⟩
        | exact ⟨0, .slice none 0 0, some ⟨b, o, none⟩, 0, by simp only [ofList]; rw [show l.length = 0 by omega], rfl, Nat.zero_le _, ⟨Keeps.refl _ _, ⟨fun _ => False, RowG.nil _ _ _, fun _ h => h.elim⟩, HBE.out, by rw [show l = [] from List.eq_nil_of_length_eq_zero (by omega)]; trivial, ⟨by simp only [ofList]; omega, by omega⟩⟩⟩
    case round =>
      obtain ⟨k, va, Ar, cr, rfl, rfl, hk, hinv⟩ := hrel
      have hls := ofList_succ (ofN f) k l
      have hle := (ofList_ok (ofN_ok f) k l).2.1
      have hln := (ofList_ok (ofN_ok f) k l).1
      have hform := hinv.row
      obtain ⟨Sx, hrow, hSx⟩ := hform
      obtain ⟨Aa, ca, rfl, hna, hma⟩ := hrow.form
      have HInv := Lib.hid hinv
      obtain ⟨hkeep, _, hcell, hpts, hcap, hcap2⟩ := hinv
      obtain ⟨lr, hlr⟩ : ∃ lr, lr = (ofList (ofN f) k l).2 := ⟨_, rfl⟩
      rw [← hlr] at hls hle hpts hcap ⊢
      obtain ⟨es, hes⟩ : ∃ es, es = (ofList (ofN f) k l).1 := ⟨_, rfl⟩
      rw [← hes] at hls hln hrow hna hcell
      have HLs := Lib.hid hls
      have HLn := Lib.hid hln
      have HRow := Lib.hid hrow
      have HKeep := Lib.hid hkeep
      have HPts := Lib.hid hpts
      have HSx := Lib.hid hSx
      have HCell := Lib.hid hcell
      have hbr : Below w.heap.size w wr := HBw.out.trans (hkeep.below HBw.out.size (fun i hi e => by omega))
      have HBr := Lib.hid hbr
      have Hlr := Lib.hid hlr
      have Hes := Lib.hid hes
      clear hls hln hrow hkeep hpts hSx hcell hbr hlr hes
      by_cases hlt : k < p.a % 4
      · have hlf : lr.length < f := by omega
        have hcr9 : cr ≤ 10000000000000 := by omega
        go_wp2_with (first | (go_at_call 11; refine (IH.out lr wr S Ar cr hlf (fun k hk => Nat.lt_of_lt_of_le (hS k hk) HBr.out.size) (PtsO.keep (fun k hk => ⟨hk, HBr.out.block k (hS k hk)⟩) _ _ HPts.out) hcap hcr9).mono ?_; rintro e w1 ⟨xv, A1, c1, rfl, hx, hp1, hc1', hc1'', hb1⟩; have hsz1 := hb1.size; have hEr : w.heap.size + 1 + 1 < wr.heap.size := (Array.getElem?_eq_some_iff.1 HCell.out).1; obtain ⟨k1, s1, n1, aA, nA, cA, aN, nN, cN, aT, nT, cT, aM, nM, cM, rfl⟩ := hx.form; have hE1 := (hb1.block _ hEr).trans HCell.out; have g3 : (w1.alloc (.cells #[.int .i64 k1, .string s1, .int .i64 n1, .slice aA nA cA, .slice aN nN cN, .slice aT nT cT, .slice aM nM cM] 31)).cell? ⟨w.heap.size + 1 + 1, 3, none⟩ = some (.slice Aa es.length ca) := blk_cell ((heap_past w1 _ _ (by omega)).trans hE1) 3; obtain ⟨hready, hitem⟩ := push_ready (T := srtE) (t := 31) HRow.out hb1 hx (.cells #[.int .i64 k1, .string s1, .int .i64 n1, .slice aA nA cA, .slice aN nN cN, .slice aT nT cT, .slice aM nM cM] 31) (.cells #[.int .i64 k1, .string s1, .int .i64 n1, .slice aA nA cA, .slice aN nN cN, .slice aT nT cT, .slice aM nM cM] 31); have hE2 : ((w1.alloc (.cells #[.int .i64 k1, .string s1, .int .i64 n1, .slice aA nA cA, .slice aN nN cN, .slice aT nT cT, .slice aM nM cM] 31)).alloc (.cells #[.int .i64 k1, .string s1, .int .i64 n1, .slice aA nA cA, .slice aN nN cN, .slice aT nT cT, .slice aM nM cM] 31)).heap[w.heap.size + 1 + 1]? = _ := (heap_past _ _ _ (by simp; omega)).trans ((heap_past w1 _ _ (by omega)).trans hE1); (have hvE : (Value.slice Aa es.length ca).ownBlock ≠ some (w.heap.size + 1 + 1) := fun e => by have := (HRow.out.block e).1; have := HBz.out; omega); have HReady := Lib.hid hready; have HItem := Lib.hid hitem; have HE2 := Lib.hid hE2; have HvE := Lib.hid hvE; have HB1 := Lib.hid hb1; have HX := Lib.hid hx; have HP1 := Lib.hid hp1; clear hready hitem hE1 hE2 hvE hb1 hx hp1) | (at_builtin; go_loud (refine wpList_grow (T := srtE) (ms := [(ofN f lr).1]) rfl (.tmp 149) (.tmp 151) 26 31 rfl i0 _ 128 Try.underlying26 hi hz0 hz1 hz2 rfl rfl HReady.out ⟨w1.heap.size + 1, 0, none⟩ 1 [.int .i64 k1, .string s1, .int .i64 n1, .slice aA nA cA, .slice aN nN cN, .slice aT nT cT, .slice aM nM cM] rfl (fun j u hj => cell_new_add _ _ _ _ (by simp) j u hj) HItem.out (by have := HLn.out; simp; omega) (by decide) (by have := HKeep.out.size; simp; omega) (by simp) ?_); intro v' w3 hrow3 hk3 hb3; obtain ⟨A3, c3, rfl, hn3, hm3⟩ := hrow3.form; go_loud (have hE3 := (hk3.block _ (by simp; omega) HvE.out).trans HE2.out; have hc3 : w3.cell? ⟨w.heap.size + 1 + 1, 3, none⟩ = some (.slice Aa es.length ca) := blk_cell hE3 3; have hf3 : w3.frozen? ⟨w.heap.size + 1 + 1, 3, none⟩ = false := blk_frozen hE3; have HE3 := Lib.hid hE3; have HRow3 := Lib.hid hrow3; have HK3 := Lib.hid hk3; clear hE3 hrow3 hk3 g3)))
        go_roundw
        case rel => exact ⟨k + 1, .slice A3 (es.length + 1) c3, A1, c1, by rw [HLs.out], by go_num, by omega, OfInv.next (by omega) (by have := HBz.out; omega) HLs.out hS HBw.out HKeep.out HRow.out HSx.out HB1.out HK3.out (by have h := HRow3.out; rwa [show (es ++ [(ofN f lr).1]).length = es.length + 1 by simp] at h) HE3.out HP1.out hc1' (by omega)⟩
        case measure => simp [intOf]; omega
      · have hkn : k = p.a % 4 := by omega
        have cE := blk_cell HCell.out
        have hRr : wr.heap[w.heap.size]? = _ := (HKeep.out.block _ (by have := HBz.out; omega) (by omega)).trans HBR.out
        have cR := blk_cell hRr
        obtain ⟨q0, q1, q2, q3, q4, q5, q6⟩ := (⟨cE 0, cE 1, cE 2, cE 3, cE 4, cE 5, cE 6⟩ : _ ∧ _ ∧ _ ∧ _ ∧ _ ∧ _ ∧ _)
        obtain ⟨r0, r1, r2, r3, r4, r5, r6⟩ := (⟨cR 0, cR 1, cR 2, cR 3, cR 4, cR 5, cR 6⟩ : _ ∧ _ ∧ _ ∧ _ ∧ _ ∧ _ ∧ _)
        have fR : ∀ j, wr.frozen? ⟨w.heap.size, j, none⟩ = false := fun j => blk_frozen hRr
        obtain ⟨t0, t1, t2, t3, t4, t5, t6⟩ := (⟨fR 0, fR 1, fR 2, fR 3, fR 4, fR 5, fR 6⟩ : _ ∧ _ ∧ _ ∧ _ ∧ _ ∧ _ ∧ _)
        clear cE cR fR
        go_wp2_with fail
        have hkf := keeps_set7 wr w.heap.size (.int .i64 20) (.string p.s) (.int .i64 p.n) (.slice Aa es.length ca) (.slice none 0 0) (.slice (some ⟨tb, 0, none⟩) 2 2) (.slice none 0 0)
        refine bodyPost_ret (v := .tuple #[.agg #[.int .i64 20, .string p.s, .int .i64 p.n, .slice Aa es.length ca, .slice none 0 0, .slice (some ⟨tb, 0, none⟩) 2 2, .slice none 0 0], .slice Ar lr.length cr]) (by simp [results, Try.results11, go_sem, r0, r1, r2, r3, r4, r5, r6]) rfl ?_
        obtain ⟨hfin, hbel⟩ := OfInv.done (Sb := fun k => w.heap.size + 3 ≤ k ∧ k < wB.heap.size) (cn := 0) (ct := 2) (An := none) (At := some ⟨tb, 0, none⟩) HInv.out (by omega) (by have := HBz.out; omega) HBw.out hkf 20 p.n p.s [] [typeOf p.t, typeOf (p.t / 8)] (by unfold maxLen; omega) (Nat.le_refl _) (Nat.zero_le _) (Nat.le_refl _) (by decide) (by unfold StrsO; trivial) HTy.out (fun k h => ⟨by omega, h.2, by omega⟩)
        have hof : ofN (f + 1) (p :: l) = (.mk 20 p.s p.n (ofList (ofN f) k l).1 [] [typeOf p.t, typeOf (p.t / 8)] [], (ofList (ofN f) k l).2) := by
          rw [hkn]
          have e : ofN (f + 1) (p :: l) = if p.k % 21 = 14 then (.mk 14 p.s p.n [] [] [] (ofMems (ofN f) (p.a % 4) l).1, (ofMems (ofN f) (p.a % 4) l).2)
            else (.mk ((p.k % 21 : Nat) : Int) (if p.k % 21 = 18 then ⟨#[]⟩ else p.s) p.n (ofList (ofN f) (p.a % 4) l).1 (if p.k % 21 = 18 then List.replicate (p.a % 4) p.s else []) (ofTypes (p.k % 21) p.t) [], (ofList (ofN f) (p.a % 4) l).2) := rfl
          rw [e, if_neg (by omega), if_neg (by omega), if_neg (by omega), show p.k % 21 = 20 from by omega]
          simp [ofTypes]
        rw [← Hes.out] at hfin hof
        rw [hof, ← Hlr.out]
        exact ⟨_, Ar, cr, rfl, hfin, HPts.out, hcap, by omega, hbel⟩
end Go.Proofs.Ythgbldkcgfggfaa
