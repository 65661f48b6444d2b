/-
  trefoilref02.Of, a clone.
-/
import Derived.Test.YthgbldkcgfggfaaOf2
namespace Go.Proofs.Ythgbldkcgfggfaa
open Go.RowKit

theorem blk_set4 {w : World} {g : Nat} {t : TypeId} {a b c d e f x : Value} (h : w.heap[g]? = some (.cells #[a, b, c, d, e, f, x] t (0, 0))) (u : Value) : (w.setCell ⟨g, 4, none⟩ u).heap[g]? = some (.cells #[a, b, c, d, u, f, x] t (0, 0)) := by
  simp [World.setCell, Array.getElem?_modify, h]
theorem blk_set1 {w : World} {g : Nat} {t : TypeId} {a b c d e f x : Value} (h : w.heap[g]? = some (.cells #[a, b, c, d, e, f, x] t (0, 0))) (u : Value) : (w.setCell ⟨g, 1, none⟩ u).heap[g]? = some (.cells #[a, u, c, d, e, f, x] t (0, 0)) := by
  simp [World.setCell, Array.getElem?_modify, h]
theorem blk_else' {w : World} {g : Nat} {p : Addr} {o : Option Obj} (h : w.heap[g]? = o) (hg : g ≠ p.block) (u : Value) : (w.setCell p u).heap[g]? = o := (Below.heap_setCell w p u g hg).trans h
theorem infoStr : (Try.prog.info? 9).map (fun i => (i.zero, i.size, i.bytes)) = some (some (.string ⟨#[]⟩), 1, 16) := by kernel_rfl

/-- The loop over a clone's names. -/
structure NmInv (w wB wr : World) (p : Part) (k : Nat) (vn : Value) : Prop where
  keeps : Keeps (fun j => j = w.heap.size + 1 + 1) wB wr
  row : RowG srtS 9 wB.heap.size wr (fun _ => False) vn (List.replicate k p.s)
  cell : wr.heap[w.heap.size + 1 + 1]? = some (.cells #[.int .i64 18, .string p.s, .int .i64 p.n, .slice none 0 0, vn, .slice none 0 0, .slice none 0 0] 31 (0, 0))

theorem NmInv.next {w wB wr w3 : World} {p : Part} {k : Nat} {va v3 : Value} {X : Obj} (hEB : w.heap.size + 1 + 1 < wB.heap.size) (h : NmInv w wB wr p k va) (hk3 : Keeps (fun j => va.ownBlock = some j) (wr.alloc X) w3)
    (hrow3 : RowG srtS 9 wB.heap.size w3 (fun _ => False) v3 (List.replicate k p.s ++ [p.s])) (hE3 : w3.heap[w.heap.size + 1 + 1]? = some (.cells #[.int .i64 18, .string p.s, .int .i64 p.n, .slice none 0 0, va, .slice none 0 0, .slice none 0 0] 31 (0, 0))) :
    NmInv w wB (w3.setCell ⟨w.heap.size + 1 + 1, 4, none⟩ v3) p (k + 1) v3 := by
  obtain ⟨hkeep, hrow, hcell⟩ := h
  have k2 : Keeps (fun j => va.ownBlock = some j ∨ j = w.heap.size + 1 + 1) wr (w3.setCell ⟨w.heap.size + 1 + 1, 4, none⟩ v3) := by
    refine Keeps.setCell ?_ (fun _ => .inr rfl) _
    exact Keeps.trans' (T' := fun j => va.ownBlock = some j) ((Keeps.refl _ wr).alloc _) hk3 (fun i _ e => .inl e)
  refine ⟨hkeep.trans' k2 ?_, ?_, blk_set4 hE3 _⟩
  · rintro i hi (e | e)
    · have := (hrow.block e).1; omega
    · exact e
  · rw [List.replicate_succ']
    refine hrow3.keep (F := fun j => j = w.heap.size + 1 + 1) (Keeps.setCell (Keeps.refl (fun j => j = w.heap.size + 1 + 1) w3) (fun _ => rfl) _) ?_
    rintro k rfl hk
    exact ⟨fun e => by have := (hrow3.block e).1; omega, fun e => e⟩

set_option maxRecDepth 100000 in
set_option maxHeartbeats 4000000 in
theorem of_18 (f : Nat) (ih : OfAt f) (p : Part) (l : List Part) (w : World) (S : Nat → Prop) (b o c : Nat) (hl : l.length < f) (hS : ∀ k, S k → k < w.heap.size) (hp : PtsO w S (p :: l) (some ⟨b, o, none⟩)) (hc : l.length + 1 ≤ c) (hc9 : c ≤ 10000000000000)
    (h18 : (p.k : Int) % 21 = 18) :
    Calls Try.prog 11 #[.slice (some ⟨b, o, none⟩) (l.length + 1) c] w fun e w' => ∃ v A' c', e = .returned (.tuple #[v, .slice A' (ofN (f + 1) (p :: l)).2.length c']) ∧ ExV w' (New w w') (ofN (f + 1) (p :: l)).1 v ∧ PtsO w S (ofN (f + 1) (p :: l)).2 A' ∧ (ofN (f + 1) (p :: l)).2.length ≤ c' ∧ c' ≤ c ∧ Below w.heap.size w w' := by
  have HP := Lib.hid hp
  obtain ⟨b', o', hbo, hSb, f0, f1, f2, f3, f4, hz, hr⟩ := hp
  simp only [Option.some.injEq, Addr.mk.injEq, and_true] at hbo
  obtain ⟨rfl, rfl⟩ := hbo
  have HR := Lib.hid hr
  obtain ⟨z1, z2, z3, z4⟩ := hz
  unfold maxLen at z4
  have IH := Lib.hid ih
  clear hr ih
  have hbw : b < w.heap.size := hS b hSb
  have e0 := (World.cell?_of_block (a := ⟨b, o, none⟩) (Below.heap_alloc w (.cells #[.int .i64 0, .string ⟨#[]⟩, .int .i64 0, .slice none 0 0, .slice none 0 0, .slice none 0 0, .slice none 0 0] 31) b hbw)).trans f0
  have e1 := (World.cell?_of_block (a := ⟨b, o + 1, none⟩) (Below.heap_alloc w (.cells #[.int .i64 0, .string ⟨#[]⟩, .int .i64 0, .slice none 0 0, .slice none 0 0, .slice none 0 0, .slice none 0 0] 31) b hbw)).trans f1
  have e2 := (World.cell?_of_block (a := ⟨b, o + 2, none⟩) (Below.heap_alloc w (.cells #[.int .i64 0, .string ⟨#[]⟩, .int .i64 0, .slice none 0 0, .slice none 0 0, .slice none 0 0, .slice none 0 0] 31) b hbw)).trans f2
  have e3 := (World.cell?_of_block (a := ⟨b, o + 3, none⟩) (Below.heap_alloc w (.cells #[.int .i64 0, .string ⟨#[]⟩, .int .i64 0, .slice none 0 0, .slice none 0 0, .slice none 0 0, .slice none 0 0] 31) b hbw)).trans f3
  have e4 := (World.cell?_of_block (a := ⟨b, o + 4, none⟩) (Below.heap_alloc w (.cells #[.int .i64 0, .string ⟨#[]⟩, .int .i64 0, .slice none 0 0, .slice none 0 0, .slice none 0 0, .slice none 0 0] 31) b hbw)).trans f4
  clear f0 f1 f2 f3 f4
  obtain ⟨i0, hi, hz0, hz1, hz2⟩ := info_parts infoX
  obtain ⟨j0, hj, hy0, hy1, hy2⟩ := info_parts infoStr
  have kq0 : ((l.length : Int) + 1 == 0) = false := by simp; omega
  obtain ⟨cc, hcc⟩ : ∃ cc, cc = c := ⟨_, rfl⟩
  rcases Decidable.em (c = 1) with rfl | hc1
  all_goals
    go_enter Try.func11, Try.ntmps11
    go_wp2
    clear e0 e1 e2 e3 e4
    obtain ⟨wC, hwC⟩ : ∃ wC, wC = ((w.alloc (.cells #[.int .i64 0, .string ⟨#[]⟩, .int .i64 0, .slice none 0 0, .slice none 0 0, .slice none 0 0, .slice none 0 0] 31)).alloc (.cells #[.int .u8 p.k, .string p.s, .int .i64 p.n, .int .u8 p.a, .int .u8 p.t] 55)).alloc (.cells #[.int .i64 18, .string p.s, .int .i64 p.n, .slice none 0 0, .slice none 0 0, .slice none 0 0, .slice none 0 0] 31) := ⟨_, rfl⟩
    have hCz : wC.heap.size = w.heap.size + 3 := by rw [hwC]; simp
    have hCE : wC.heap[w.heap.size + 1 + 1]? = some (.cells #[.int .i64 18, .string p.s, .int .i64 p.n, .slice none 0 0, .slice none 0 0, .slice none 0 0, .slice none 0 0] 31 (0, 0)) := by
      rw [hwC]; exact heap_at _ _ _ (by simp)
    have hCP : wC.heap[w.heap.size + 1]? = some (.cells #[.int .u8 p.k, .string p.s, .int .i64 p.n, .int .u8 p.a, .int .u8 p.t] 55 (0, 0)) := by
      rw [hwC]; rw [heap_past _ _ _ (by simp), heap_at _ _ _ (by simp)]
    have hCR : wC.heap[w.heap.size]? = some (.cells #[.int .i64 0, .string ⟨#[]⟩, .int .i64 0, .slice none 0 0, .slice none 0 0, .slice none 0 0, .slice none 0 0] 31 (0, 0)) := by
      rw [hwC]; rw [heap_past _ _ _ (by simp <;> omega), heap_past _ _ _ (by simp), heap_at _ _ _ rfl]
    have hCw : Below w.heap.size w wC := by
      rw [hwC]; exact (((Below.refl _ w).alloc (Nat.le_refl _) _).alloc (by simp) _).alloc (by simp <;> omega) _
    have HCz := Lib.hid hCz
    have HCE := Lib.hid hCE
    have HCP := Lib.hid hCP
    have HCR := Lib.hid hCR
    have HCw := Lib.hid hCw
    rw [← hwC]
    clear hwC hCz hCE hCP hCR hCw
    try simp only [h18]
    go_loopw [11] (fun i wr => ∃ (k : Nat) (vn : Value), i = .int .i64 k ∧ k ≤ p.a % 4 ∧ NmInv w wC wr p k vn) (fun i _ => p.a % 4 - (intOf i).toNat)
    case atStart => exact ⟨0, .slice none 0 0, rfl, Nat.zero_le _, ⟨Keeps.refl _ _, RowG.nil _ _ _, HCE.out⟩⟩
    case round =>
      obtain ⟨k, vn, rfl, hk, hinv⟩ := hrel
      obtain ⟨Aa, ca, rfl, hna, hma⟩ := hinv.row.form
      have HInv0 := Lib.hid hinv
      have hln : (List.replicate k p.s).length = k := by simp
      rw [hln] at hinv hna
      have HInv := Lib.hid hinv
      have hE1 := hinv.cell
      have hP1 : wr.heap[w.heap.size + 1]? = _ := (hinv.keeps.block _ (by have := HCz.out; omega) (by omega)).trans HCP.out
      have hzr := hinv.keeps.size
      have hvE : (Value.slice Aa k ca).ownBlock ≠ some (w.heap.size + 1 + 1) := fun e => by have := (hinv.row.block e).1; have := HCz.out; omega
      have HzR := Lib.hid hzr
      have HvE := Lib.hid hvE
      have hEr : w.heap.size + 1 + 1 < wr.heap.size := (Array.getElem?_eq_some_iff.1 hE1).1
      by_cases hlt : k < p.a % 4
      · have c4 : wr.cell? ⟨w.heap.size + 1 + 1, 4, none⟩ = some (.slice Aa k ca) := blk_cell hE1 4
        have c1 : wr.cell? ⟨w.heap.size + 1, 1, none⟩ = some (.string p.s) := blk_cell hP1 1
        have HE2 := Lib.hid ((heap_past wr (.cells #[.string p.s] 9) _ hEr).trans hE1)
        have hready : RowG srtS 9 wC.heap.size (wr.alloc (.cells #[.string p.s] 9)) (fun _ => False) (.slice Aa k ca) (List.replicate k p.s) := hinv.row.keep (F := fun _ => False) ((Keeps.refl _ wr).alloc _) (fun _ e => e.elim)
        have HReady := Lib.hid hready
        have HItem := Lib.hid (Items.one srtS (w := wr.alloc (.cells #[.string p.s] 9)) (S := fun _ => False) (a := p.s) (v := .string p.s) ⟨rfl, z4⟩)
        clear hE1 hP1 hinv hready hvE hzr
        go_wp2_with (at_builtin; go_loud (refine wpList_grow (T := srtS) (ms := [p.s]) rfl (.tmp 131) (.tmp 134) 27 9 rfl j0 _ 16 Try.underlying27 hj hy0 hy1 hy2 rfl rfl HReady.out ⟨wr.heap.size, 0, none⟩ 1 [.string p.s] rfl (fun j u hj => cell_new_add _ _ _ _ rfl j u hj) HItem.out (by simp; omega) (by decide) (by have := HzR.out; simp; omega) (by simp) ?_); intro v' w3 hrow3 hk3 hb3; obtain ⟨A3, c3, rfl, hn3, hm3⟩ := hrow3.form; go_loud (have hE3 := (hk3.block _ (by simp; omega) HvE.out).trans HE2.out; have hc3 : w3.cell? ⟨w.heap.size + 1 + 1, 4, none⟩ = some (.slice Aa k ca) := blk_cell hE3 4; have hf3 : w3.frozen? ⟨w.heap.size + 1 + 1, 4, none⟩ = false := blk_frozen hE3; have HE3 := Lib.hid hE3; have HRow3 := Lib.hid hrow3; have HK3 := Lib.hid hk3; clear hE3 hrow3 hk3))
        go_roundw
        case rel => exact ⟨k + 1, .slice A3 (k + 1) c3, by go_num, by omega, NmInv.next (by have := HCz.out; omega) HInv.out HK3.out (by have h := HRow3.out; rwa [show (List.replicate k p.s ++ [p.s]).length = k + 1 by simp] at h) HE3.out⟩
        case measure => simp [intOf]; omega
      · have hkn0 : p.a % 4 = k := by omega
        have c1 : wr.cell? ⟨w.heap.size + 1 + 1, 1, none⟩ = some (.string p.s) := blk_cell hE1 1
        have f1 : wr.frozen? ⟨w.heap.size + 1 + 1, 1, none⟩ = false := blk_frozen hE1
        have HE1 := Lib.hid hE1
        clear hE1 hP1 hinv hvE hzr
        obtain ⟨wN, rfl⟩ : ∃ wN, wN = wr := ⟨_, rfl⟩
        obtain ⟨kn, rfl⟩ : ∃ kn, kn = k := ⟨_, rfl⟩
        obtain ⟨An, rfl⟩ : ∃ An, An = Aa := ⟨_, rfl⟩
        obtain ⟨cn, rfl⟩ : ∃ cn, cn = ca := ⟨_, rfl⟩
        clear HInv0
        go_wp2
        obtain ⟨wB, hwB⟩ : ∃ wB, wB = wN.setCell ⟨w.heap.size + 1 + 1, 1, none⟩ (.string ⟨#[]⟩) := ⟨_, rfl⟩
        have hBE := blk_set1 HE1.out (.string ⟨#[]⟩)
        have hBR := blk_else' (p := ⟨w.heap.size + 1 + 1, 1, none⟩) ((HInv.out.keeps.block _ (by have := HCz.out; omega) (by omega)).trans HCR.out) (by show w.heap.size ≠ w.heap.size + 1 + 1; omega) (.string ⟨#[]⟩)
        have hBz : wB.heap.size = wN.heap.size := by rw [hwB]; simp [World.setCell]
        rw [← hwB] at hBE hBR
        have hBw : Below w.heap.size w wB := by
          rw [hwB]; exact (HCw.out.trans (HInv.out.keeps.below (by have := HCz.out; omega) (fun i hi e => by omega))).setCell (by simp; omega) _
        have hrowB : RowG srtS 9 wC.heap.size wB (fun _ => False) (.slice An kn cn) (List.replicate kn p.s) := by
          rw [hwB]
          refine HInv.out.row.keep (F := fun j => j = w.heap.size + 1 + 1) (Keeps.setCell (Keeps.refl (fun j => j = w.heap.size + 1 + 1) wN) (fun _ => rfl) _) ?_
          rintro j rfl hj
          exact ⟨fun e => by have := (HInv.out.row.block e).1; have := HCz.out; omega, fun e => e⟩
        obtain ⟨An', cn', hvn, hn1, hn2, hstr⟩ := hrowB.strs (S' := fun k => w.heap.size + 3 ≤ k ∧ k < wB.heap.size) (fun _ e => e.elim) (fun k h1 h2 => ⟨by have := HCz.out; omega, h2⟩)
        simp only [Value.slice.injEq] at hvn
        obtain ⟨rfl, hkl, rfl⟩ := hvn
        have HStr := Lib.hid hstr
        have HN1 := Lib.hid hn1
        have HN2 := Lib.hid hn2
        have HBz := Lib.hid (by have := HCz.out; have := HzR.out; omega : w.heap.size + 3 ≤ wB.heap.size)
        have HBE := Lib.hid hBE
        have HBR := Lib.hid hBR
        have HBw := Lib.hid hBw
        have Hkl := Lib.hid (by omega : kn = p.a % 4)
        rw [← hwB]
        clear hwB hBz hBE hBR hBw hrowB hstr hn1 hn2 HInv HE1 HzR c1 f1 hEr hkl hlt hk hkn0 hma hna hln HvE
        try simp only [kq0]
        go_loopw [0, 12, 13, 14] (fun x i _ _ wr => ∃ (k : Nat) (va : Value) (Ar : Option Addr) (cr : Nat), x = .slice Ar (ofList (ofN f) k l).2.length cr ∧ i = .int .i64 k ∧ k ≤ p.a % 4 ∧ OfInv f w wB wr (w.heap.size + 1 + 1) S l k va Ar cr cc (.int .i64 18) (.string ⟨#[]⟩) (.int .i64 p.n) (.slice An kn cn) (.slice none 0 0) (.slice none 0 0)) (fun _ i _ _ _ => p.a % 4 - (intOf i).toNat)
        case atStart =>
          first
            | exact ⟨0, .slice none 0 0, some ⟨b, o + 5, none⟩, c - 1, rfl, rfl, Nat.zero_le _, ⟨Keeps.refl _ _, ⟨fun _ => False, RowG.nil _ _ _, fun _ h => h.elim⟩, HBE.out, HR.out, ⟨by simp only [ofList]; omega, by omega⟩⟩⟩
            | exact ⟨0, .slice none 0 0, some ⟨b, o, none⟩, 0, by simp only [ofList]; rw [show l.length = 0 by omega], rfl, Nat.zero_le _, ⟨Keeps.refl _ _, ⟨fun _ => False, RowG.nil _ _ _, fun _ h => h.elim⟩, HBE.out, by rw [show l = [] from List.eq_nil_of_length_eq_zero (by omega)]; trivial, ⟨by simp only [ofList]; omega, by omega⟩⟩⟩
        case round =>
          obtain ⟨k, va, Ar, cr, rfl, rfl, hk, hinv⟩ := hrel
          have hls := ofList_succ (ofN f) k l
          have hle := (ofList_ok (ofN_ok f) k l).2.1
          have hln := (ofList_ok (ofN_ok f) k l).1
          have hform := hinv.row
          obtain ⟨Sx, hrow, hSx⟩ := hform
          obtain ⟨Aa, ca, rfl, hna, hma⟩ := hrow.form
          have HInv := Lib.hid hinv
          obtain ⟨hkeep, _, hcell, hpts, hcap, hcap2⟩ := hinv
          obtain ⟨lr, hlr⟩ : ∃ lr, lr = (ofList (ofN f) k l).2 := ⟨_, rfl⟩
          rw [← hlr] at hls hle hpts hcap ⊢
          obtain ⟨es, hes⟩ : ∃ es, es = (ofList (ofN f) k l).1 := ⟨_, rfl⟩
          rw [← hes] at hls hln hrow hna hcell
          have HLs := Lib.hid hls
          have HLn := Lib.hid hln
          have HRow := Lib.hid hrow
          have HKeep := Lib.hid hkeep
          have HPts := Lib.hid hpts
          have HSx := Lib.hid hSx
          have HCell := Lib.hid hcell
          have hbr : Below w.heap.size w wr := HBw.out.trans (hkeep.below HBw.out.size (fun i hi e => by omega))
          have HBr := Lib.hid hbr
          have Hlr := Lib.hid hlr
          have Hes := Lib.hid hes
          clear hls hln hrow hkeep hpts hSx hcell hbr hlr hes
          by_cases hlt : k < p.a % 4
          · have hlf : lr.length < f := by omega
            have hcr9 : cr ≤ 10000000000000 := by omega
            go_wp2_with (first | (go_at_call 11; refine (IH.out lr wr S Ar cr hlf (fun k hk => Nat.lt_of_lt_of_le (hS k hk) HBr.out.size) (PtsO.keep (fun k hk => ⟨hk, HBr.out.block k (hS k hk)⟩) _ _ HPts.out) hcap hcr9).mono ?_; rintro e w1 ⟨xv, A1, c1, rfl, hx, hp1, hc1', hc1'', hb1⟩; have hsz1 := hb1.size; have hEr : w.heap.size + 1 + 1 < wr.heap.size := (Array.getElem?_eq_some_iff.1 HCell.out).1; obtain ⟨k1, s1, n1, aA, nA, cA, aN, nN, cN, aT, nT, cT, aM, nM, cM, rfl⟩ := hx.form; have hE1 := (hb1.block _ hEr).trans HCell.out; have g3 : (w1.alloc (.cells #[.int .i64 k1, .string s1, .int .i64 n1, .slice aA nA cA, .slice aN nN cN, .slice aT nT cT, .slice aM nM cM] 31)).cell? ⟨w.heap.size + 1 + 1, 3, none⟩ = some (.slice Aa es.length ca) := blk_cell ((heap_past w1 _ _ (by omega)).trans hE1) 3; obtain ⟨hready, hitem⟩ := push_ready (T := srtE) (t := 31) HRow.out hb1 hx (.cells #[.int .i64 k1, .string s1, .int .i64 n1, .slice aA nA cA, .slice aN nN cN, .slice aT nT cT, .slice aM nM cM] 31) (.cells #[.int .i64 k1, .string s1, .int .i64 n1, .slice aA nA cA, .slice aN nN cN, .slice aT nT cT, .slice aM nM cM] 31); have hE2 : ((w1.alloc (.cells #[.int .i64 k1, .string s1, .int .i64 n1, .slice aA nA cA, .slice aN nN cN, .slice aT nT cT, .slice aM nM cM] 31)).alloc (.cells #[.int .i64 k1, .string s1, .int .i64 n1, .slice aA nA cA, .slice aN nN cN, .slice aT nT cT, .slice aM nM cM] 31)).heap[w.heap.size + 1 + 1]? = _ := (heap_past _ _ _ (by simp; omega)).trans ((heap_past w1 _ _ (by omega)).trans hE1); (have hvE : (Value.slice Aa es.length ca).ownBlock ≠ some (w.heap.size + 1 + 1) := fun e => by have := (HRow.out.block e).1; have := HBz.out; omega); have HReady := Lib.hid hready; have HItem := Lib.hid hitem; have HE2 := Lib.hid hE2; have HvE := Lib.hid hvE; have HB1 := Lib.hid hb1; have HX := Lib.hid hx; have HP1 := Lib.hid hp1; clear hready hitem hE1 hE2 hvE hb1 hx hp1) | (at_builtin; go_loud (refine wpList_grow (T := srtE) (ms := [(ofN f lr).1]) rfl (.tmp 149) (.tmp 151) 26 31 rfl i0 _ 128 Try.underlying26 hi hz0 hz1 hz2 rfl rfl HReady.out ⟨w1.heap.size + 1, 0, none⟩ 1 [.int .i64 k1, .string s1, .int .i64 n1, .slice aA nA cA, .slice aN nN cN, .slice aT nT cT, .slice aM nM cM] rfl (fun j u hj => cell_new_add _ _ _ _ (by simp) j u hj) HItem.out (by have := HLn.out; simp; omega) (by decide) (by have := HKeep.out.size; simp; omega) (by simp) ?_); intro v' w3 hrow3 hk3 hb3; obtain ⟨A3, c3, rfl, hn3, hm3⟩ := hrow3.form; go_loud (have hE3 := (hk3.block _ (by simp; omega) HvE.out).trans HE2.out; have hc3 : w3.cell? ⟨w.heap.size + 1 + 1, 3, none⟩ = some (.slice Aa es.length ca) := blk_cell hE3 3; have hf3 : w3.frozen? ⟨w.heap.size + 1 + 1, 3, none⟩ = false := blk_frozen hE3; have HE3 := Lib.hid hE3; have HRow3 := Lib.hid hrow3; have HK3 := Lib.hid hk3; clear hE3 hrow3 hk3 g3)))
            go_roundw
            case rel => exact ⟨k + 1, .slice A3 (es.length + 1) c3, A1, c1, by rw [HLs.out], by go_num, by omega, OfInv.next (by omega) (by have := HBz.out; omega) HLs.out hS HBw.out HKeep.out HRow.out HSx.out HB1.out HK3.out (by have h := HRow3.out; rwa [show (es ++ [(ofN f lr).1]).length = es.length + 1 by simp] at h) HE3.out HP1.out hc1' (by omega)⟩
            case measure => simp [intOf]; omega
          · have hkn : k = p.a % 4 := by omega
            have cE := blk_cell HCell.out
            have hRr : wr.heap[w.heap.size]? = _ := (HKeep.out.block _ (by have := HBz.out; omega) (by omega)).trans HBR.out
            have cR := blk_cell hRr
            obtain ⟨q0, q1, q2, q3, q4, q5, q6⟩ := (⟨cE 0, cE 1, cE 2, cE 3, cE 4, cE 5, cE 6⟩ : _ ∧ _ ∧ _ ∧ _ ∧ _ ∧ _ ∧ _)
            obtain ⟨r0, r1, r2, r3, r4, r5, r6⟩ := (⟨cR 0, cR 1, cR 2, cR 3, cR 4, cR 5, cR 6⟩ : _ ∧ _ ∧ _ ∧ _ ∧ _ ∧ _ ∧ _)
            have fR : ∀ j, wr.frozen? ⟨w.heap.size, j, none⟩ = false := fun j => blk_frozen hRr
            obtain ⟨t0, t1, t2, t3, t4, t5, t6⟩ := (⟨fR 0, fR 1, fR 2, fR 3, fR 4, fR 5, fR 6⟩ : _ ∧ _ ∧ _ ∧ _ ∧ _ ∧ _ ∧ _)
            clear cE cR fR
            go_wp2_with fail
            have hkf := keeps_set7 wr w.heap.size (.int .i64 18) (.string ⟨#[]⟩) (.int .i64 p.n) (.slice Aa es.length ca) (.slice An kn cn) (.slice none 0 0) (.slice none 0 0)
            refine bodyPost_ret (v := .tuple #[.agg #[.int .i64 18, .string ⟨#[]⟩, .int .i64 p.n, .slice Aa es.length ca, .slice An kn cn, .slice none 0 0, .slice none 0 0], .slice Ar lr.length cr]) (by simp [results, Try.results11, go_sem, r0, r1, r2, r3, r4, r5, r6]) rfl ?_
            obtain ⟨hfin, hbel⟩ := OfInv.done (Sb := fun k => w.heap.size + 3 ≤ k ∧ k < wB.heap.size) (cn := cn) (ct := 0) (An := An) (At := none) HInv.out (by omega) (by have := HBz.out; omega) HBw.out hkf 18 p.n ⟨#[]⟩ (List.replicate kn p.s) [] (by unfold maxLen; decide) HN1.out HN2.out (Nat.le_refl _) (Nat.zero_le _) HStr.out (by unfold TysO; trivial) (fun k h => ⟨by omega, h.2, by omega⟩)
            rw [List.length_replicate] at hfin
            have hof : ofN (f + 1) (p :: l) = (.mk 18 ⟨#[]⟩ p.n (ofList (ofN f) k l).1 (List.replicate kn p.s) [] [], (ofList (ofN f) k l).2) := by
              rw [hkn]
              have e : ofN (f + 1) (p :: l) = if p.k % 21 = 14 then (.mk 14 p.s p.n [] [] [] (ofMems (ofN f) (p.a % 4) l).1, (ofMems (ofN f) (p.a % 4) l).2)
                else (.mk ((p.k % 21 : Nat) : Int) (if p.k % 21 = 18 then ⟨#[]⟩ else p.s) p.n (ofList (ofN f) (p.a % 4) l).1 (if p.k % 21 = 18 then List.replicate (p.a % 4) p.s else []) (ofTypes (p.k % 21) p.t) [], (ofList (ofN f) (p.a % 4) l).2) := rfl
              rw [e, if_neg (by omega), if_pos (by omega), if_pos (by omega), show p.k % 21 = 18 from by omega, Hkl.out]
              simp [ofTypes]
            rw [← Hes.out] at hfin hof
            rw [hof, ← Hlr.out]
            exact ⟨_, Ar, cr, rfl, hfin, HPts.out, hcap, by omega, hbel⟩
end Go.Proofs.Ythgbldkcgfggfaa
