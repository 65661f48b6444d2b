/-
  graph.newClasses.
-/
import Derived.Test.YtipehahfbcbigaaDCls
namespace Go.Proofs.Ytipehahfbcbigaa
open Go.RowKit

/-- New classes under way. -/
structure NC (w W : World) (n cB pB sB : Nat) (fp fs : Nat → Nat) : Prop where
  bel : Below w.heap.size w W
  res : Blk W w.heap.size (.cells #[.slice none 0 0, .slice none 0 0] 64 (0, 0))
  var : Blk W cB (.cells #[.slice (some ⟨pB, 0, none⟩) n n, .slice (some ⟨sB, 0, none⟩) n n] 64 (0, 0))
  par : NumAt W pB n fp
  siz : NumAt W sB n fs
  ps : pB ≠ sB
  cp : cB ≠ pB
  cs : cB ≠ sB
  lc : w.heap.size < cB
  lp : w.heap.size < pB
  ls : w.heap.size < sB
section
variable {w W : World} {n cB pB sB : Nat} {fp fs : Nat → Nat}
theorem NC.drew (h : NC w W n cB pB sB fp fs) : NC w W.drew n cB pB sB fp fs := ⟨h.bel.drew, h.res, h.var, h.par, h.siz, h.ps, h.cp, h.cs, h.lc, h.lp, h.ls⟩
theorem NC.setP (h : NC w W n cB pB sB fp fs) (a y : Nat) (g : Nat → Nat) (hg : ∀ i, i < n → g i = if i = a then y else fp i) : NC w (W.setCell ⟨pB, a, none⟩ (.int .i64 (y : Nat))) n cB pB sB g fs :=
  ⟨h.bel.setCell (Nat.le_of_lt h.lp) _, (Below.heap_setCell _ _ _ _ (fun e => by have := h.lp; simp at e; omega)).trans h.res, (Below.heap_setCell _ _ _ _ h.cp).trans h.var, h.par.set a y g hg, h.siz.far (Ne.symm h.ps) _, h.ps, h.cp, h.cs, h.lc, h.lp, h.ls⟩
theorem NC.setS (h : NC w W n cB pB sB fp fs) (a y : Nat) (g : Nat → Nat) (hg : ∀ i, i < n → g i = if i = a then y else fs i) : NC w (W.setCell ⟨sB, a, none⟩ (.int .i64 (y : Nat))) n cB pB sB fp g :=
  ⟨h.bel.setCell (Nat.le_of_lt h.ls) _, (Below.heap_setCell _ _ _ _ (fun e => by have := h.ls; simp at e; omega)).trans h.res, (Below.heap_setCell _ _ _ _ h.cs).trans h.var, h.par.far h.ps _, h.siz.set a y g hg, h.ps, h.cp, h.cs, h.lc, h.lp, h.ls⟩
end
def fillTo (f : Nat → Nat) (k x : Nat) : Nat := if x < k then f x else 0
theorem fillTo_zero (f : Nat → Nat) : fillTo f 0 = fun _ => 0 := by funext x; simp [fillTo]
theorem fillTo_step (f : Nat → Nat) (k i : Nat) : fillTo f (k + 1) i = if i = k then f k else fillTo f k i := by
  unfold fillTo
  by_cases e : i = k
  · subst e; simp
  · rw [if_neg e]
    by_cases h : i < k
    · rw [if_pos h, if_pos (by omega)]
    · rw [if_neg h, if_neg (by omega)]

theorem NumAt.congr {w : World} {b N : Nat} {f g : Nat → Nat} (h : NumAt w b N f) (he : ∀ i, i < N → g i = f i) : NumAt w b N g := by
  have e : numCells N g = numCells N f := by
    unfold numCells
    congr 1
    apply List.map_congr_left
    intro i hi
    rw [he i (List.mem_range.1 hi)]
  unfold NumAt
  rw [e]; exact h

set_option maxRecDepth 100000 in
set_option maxHeartbeats 4000000 in
theorem newClasses_r (w : World) (n : Nat) (hn : n ≤ 4000000) :
    Calls Try.prog 40 #[.int .i64 n] w fun e w' => ∃ pB sB, e = .returned (.agg #[.slice (some ⟨pB, 0, none⟩) n n, .slice (some ⟨sB, 0, none⟩) n n]) ∧ NumAt w' pB n (fun x => x) ∧ NumAt w' sB n (fun _ => 1) ∧ pB ≠ sB ∧ w.heap.size ≤ pB ∧ w.heap.size ≤ sB ∧ Below w.heap.size w w' := by
  have hmk := fun W => makeNum W n (by omega)
  go_enter Try.func40, Try.ntmps40
  go_wp2
  go_region
  all_goals go_wp2
  all_goals clear hmk
  · have hnc : NC w (((((w.alloc (.cells #[.slice none 0 0, .slice none 0 0] 64)).alloc (.cells (numCells n fun _ => 0) 3)).alloc (.cells (numCells n fun _ => 0) 3)).alloc (.cells #[.slice (some ⟨w.heap.size + 1, 0, none⟩) n n, .slice (some ⟨w.heap.size + 1 + 1, 0, none⟩) n n] 64)).drew) n (w.heap.size + 1 + 1 + 1) (w.heap.size + 1) (w.heap.size + 1 + 1) (fun _ => 0) (fun _ => 0) := by
      refine ⟨((((((Below.refl _ w).alloc (Nat.le_refl _) _).alloc (by simp) _).alloc (by simp; omega) _).alloc (by simp; omega) _)).drew, Blk.drew (Blk.alloc (Blk.alloc (Blk.alloc (Blk.new' _ _ _ rfl) _) _) _), Blk.drew (Blk.new' _ _ _ (by simp)), Blk.drew (Blk.alloc (Blk.alloc (Blk.new' _ _ _ (by simp)) _) _), Blk.drew (Blk.alloc (Blk.new' _ _ _ (by simp)) _), by omega, by omega, by omega, by omega, by omega, by omega⟩
    have HNc := Lib.hid hnc
    clear hnc
    generalize ((((w.alloc (.cells #[.slice none 0 0, .slice none 0 0] 64)).alloc (.cells (numCells n fun _ => 0) 3)).alloc (.cells (numCells n fun _ => 0) 3)).alloc (.cells #[.slice (some ⟨w.heap.size + 1, 0, none⟩) n n, .slice (some ⟨w.heap.size + 1 + 1, 0, none⟩) n n] 64)).drew = W1 at HNc ⊢
    generalize w.heap.size + 1 + 1 + 1 = cB at HNc ⊢
    generalize w.heap.size + 1 + 1 = sB at HNc ⊢
    generalize w.heap.size + 1 = pB at HNc ⊢
    go_loopw [4, 11] (fun _ i wr => ∃ k : Nat, i = .int .i64 k ∧ k ≤ n ∧ NC w wr n cB pB sB (fillTo (fun x => x) k) (fillTo (fun _ => 1) k)) (fun _ i _ => n - (intOf i).toNat)
    case atStart => exact ⟨0, rfl, Nat.zero_le _, by rw [fillTo_zero, fillTo_zero]; exact HNc.out⟩
    case round =>
      obtain ⟨k, rfl, hk, hnc⟩ := hrel
      have HN := Lib.hid hnc
      obtain ⟨n1, n2, n3⟩ := (⟨hnc.ps, hnc.cp, hnc.cs⟩ : pB ≠ sB ∧ cB ≠ pB ∧ cB ≠ sB)
      have v0 := hnc.var.cells.1 0
      have v1 := hnc.var.cells.1 1
      clear hnc
      by_cases hlt : k < n
      · obtain ⟨a0, a1⟩ := HN.out.par.cell k hlt
        obtain ⟨b0, b1⟩ := HN.out.siz.cell k hlt
        go_wp2
        go_region
        all_goals go_wp2
        all_goals go_roundw
        all_goals first
          | exact ⟨k + 1, by go_num, by omega, (HN.out.drew.setP k k _ (fun i _ => fillTo_step (fun x => x) k i)).setS k 1 _ (fun i _ => fillTo_step (fun _ => 1) k i)⟩
          | exact ⟨k + 1, by go_num, by omega, (HN.out.drew.setS k 1 _ (fun i _ => fillTo_step (fun _ => 1) k i)).setP k k _ (fun i _ => fillTo_step (fun x => x) k i)⟩
          | (simp [intOf]; omega)
      · have hk' : k = n := by omega
        have hbR := HN.out.res
        obtain ⟨g1, g2⟩ := hbR.cells
        have g10 := g1 0
        have g11 := g1 1
        have g20 := g2 0
        have g21 := g2 1
        have hpar : NumAt wr pB n (fun x => x) := HN.out.par.congr (fun i hi => by unfold fillTo; rw [if_pos (by omega)])
        have hsiz : NumAt wr sB n (fun _ => 1) := HN.out.siz.congr (fun i hi => by unfold fillTo; rw [if_pos (by omega)])
        have hlp := HN.out.lp
        have hls := HN.out.ls
        have hbS := (hbR.set 0 (.slice (some ⟨pB, 0, none⟩) n n)).set 1 (.slice (some ⟨sB, 0, none⟩) n n)
        have hpar2 : NumAt ((wr.setCell ⟨w.heap.size, 0, none⟩ (.slice (some ⟨pB, 0, none⟩) n n)).setCell ⟨w.heap.size, 1, none⟩ (.slice (some ⟨sB, 0, none⟩) n n)) pB n (fun x => x) := (hpar.far (p := ⟨w.heap.size, 0, none⟩) (by simp; omega) _).far (p := ⟨w.heap.size, 1, none⟩) (by simp; omega) _
        have hsiz2 : NumAt ((wr.setCell ⟨w.heap.size, 0, none⟩ (.slice (some ⟨pB, 0, none⟩) n n)).setCell ⟨w.heap.size, 1, none⟩ (.slice (some ⟨sB, 0, none⟩) n n)) sB n (fun _ => 1) := (hsiz.far (p := ⟨w.heap.size, 0, none⟩) (by simp; omega) _).far (p := ⟨w.heap.size, 1, none⟩) (by simp; omega) _
        have hbW : Below w.heap.size w ((wr.setCell ⟨w.heap.size, 0, none⟩ (.slice (some ⟨pB, 0, none⟩) n n)).setCell ⟨w.heap.size, 1, none⟩ (.slice (some ⟨sB, 0, none⟩) n n)) := (HN.out.bel.setCell (by simp) _).setCell (by simp) _
        have HbS := Lib.hid hbS
        have HP2 := Lib.hid hpar2
        have HS2 := Lib.hid hsiz2
        have HbW := Lib.hid hbW
        clear hbS hpar hsiz hpar2 hsiz2 hbW hbR g1 g2 hk'
        go_wp2
        generalize ((wr.setCell ⟨w.heap.size, 0, none⟩ (.slice (some ⟨pB, 0, none⟩) n n)).setCell ⟨w.heap.size, 1, none⟩ (.slice (some ⟨sB, 0, none⟩) n n)) = W9 at HbS HP2 HS2 HbW ⊢
        obtain ⟨p1, p2⟩ := HbS.out.cells
        have p10 : W9.cell? ⟨w.heap.size, 0, none⟩ = some (.slice (some ⟨pB, 0, none⟩) n n) := p1 0
        have p11 : W9.cell? ⟨w.heap.size, 1, none⟩ = some (.slice (some ⟨sB, 0, none⟩) n n) := p1 1
        refine bodyPost_ret (v := .agg #[.slice (some ⟨pB, 0, none⟩) n n, .slice (some ⟨sB, 0, none⟩) n n]) (by simp [results, Try.results40, go_sem, p10, p11]) rfl ?_
        exact ⟨pB, sB, rfl, HP2.out, HS2.out, n1, Nat.le_of_lt hlp, Nat.le_of_lt hls, HbW.out⟩
  · have hnc : NC w (((((w.alloc (.cells #[.slice none 0 0, .slice none 0 0] 64)).alloc (.cells (numCells n fun _ => 0) 3)).alloc (.cells #[.slice (some ⟨w.heap.size + 1, 0, none⟩) n n, .slice (some ⟨w.heap.size + 1 + 1 + 1, 0, none⟩) n n] 64)).alloc (.cells (numCells n fun _ => 0) 3)).drew) n (w.heap.size + 1 + 1) (w.heap.size + 1) (w.heap.size + 1 + 1 + 1) (fun _ => 0) (fun _ => 0) := by
      refine ⟨((((((Below.refl _ w).alloc (Nat.le_refl _) _).alloc (by simp) _).alloc (by simp; omega) _).alloc (by simp; omega) _)).drew, Blk.drew (Blk.alloc (Blk.alloc (Blk.alloc (Blk.new' _ _ _ rfl) _) _) _), Blk.drew (Blk.alloc (Blk.new' _ _ _ (by simp)) _), Blk.drew (Blk.alloc (Blk.alloc (Blk.new' _ _ _ (by simp)) _) _), Blk.drew (Blk.new' _ _ _ (by simp)), by omega, by omega, by omega, by omega, by omega, by omega⟩
    have HNc := Lib.hid hnc
    clear hnc
    generalize ((((w.alloc (.cells #[.slice none 0 0, .slice none 0 0] 64)).alloc (.cells (numCells n fun _ => 0) 3)).alloc (.cells #[.slice (some ⟨w.heap.size + 1, 0, none⟩) n n, .slice (some ⟨w.heap.size + 1 + 1 + 1, 0, none⟩) n n] 64)).alloc (.cells (numCells n fun _ => 0) 3)).drew = W1 at HNc ⊢
    generalize w.heap.size + 1 + 1 + 1 = sB at HNc ⊢
    generalize w.heap.size + 1 + 1 = cB at HNc ⊢
    generalize w.heap.size + 1 = pB at HNc ⊢
    go_loopw [4, 11] (fun _ i wr => ∃ k : Nat, i = .int .i64 k ∧ k ≤ n ∧ NC w wr n cB pB sB (fillTo (fun x => x) k) (fillTo (fun _ => 1) k)) (fun _ i _ => n - (intOf i).toNat)
    case atStart => exact ⟨0, rfl, Nat.zero_le _, by rw [fillTo_zero, fillTo_zero]; exact HNc.out⟩
    case round =>
      obtain ⟨k, rfl, hk, hnc⟩ := hrel
      have HN := Lib.hid hnc
      obtain ⟨n1, n2, n3⟩ := (⟨hnc.ps, hnc.cp, hnc.cs⟩ : pB ≠ sB ∧ cB ≠ pB ∧ cB ≠ sB)
      have v0 := hnc.var.cells.1 0
      have v1 := hnc.var.cells.1 1
      clear hnc
      by_cases hlt : k < n
      · obtain ⟨a0, a1⟩ := HN.out.par.cell k hlt
        obtain ⟨b0, b1⟩ := HN.out.siz.cell k hlt
        go_wp2
        go_region
        all_goals go_wp2
        all_goals go_roundw
        all_goals first
          | exact ⟨k + 1, by go_num, by omega, (HN.out.drew.setP k k _ (fun i _ => fillTo_step (fun x => x) k i)).setS k 1 _ (fun i _ => fillTo_step (fun _ => 1) k i)⟩
          | exact ⟨k + 1, by go_num, by omega, (HN.out.drew.setS k 1 _ (fun i _ => fillTo_step (fun _ => 1) k i)).setP k k _ (fun i _ => fillTo_step (fun x => x) k i)⟩
          | (simp [intOf]; omega)
      · have hk' : k = n := by omega
        have hbR := HN.out.res
        obtain ⟨g1, g2⟩ := hbR.cells
        have g10 := g1 0
        have g11 := g1 1
        have g20 := g2 0
        have g21 := g2 1
        have hpar : NumAt wr pB n (fun x => x) := HN.out.par.congr (fun i hi => by unfold fillTo; rw [if_pos (by omega)])
        have hsiz : NumAt wr sB n (fun _ => 1) := HN.out.siz.congr (fun i hi => by unfold fillTo; rw [if_pos (by omega)])
        have hlp := HN.out.lp
        have hls := HN.out.ls
        have hbS := (hbR.set 0 (.slice (some ⟨pB, 0, none⟩) n n)).set 1 (.slice (some ⟨sB, 0, none⟩) n n)
        have hpar2 : NumAt ((wr.setCell ⟨w.heap.size, 0, none⟩ (.slice (some ⟨pB, 0, none⟩) n n)).setCell ⟨w.heap.size, 1, none⟩ (.slice (some ⟨sB, 0, none⟩) n n)) pB n (fun x => x) := (hpar.far (p := ⟨w.heap.size, 0, none⟩) (by simp; omega) _).far (p := ⟨w.heap.size, 1, none⟩) (by simp; omega) _
        have hsiz2 : NumAt ((wr.setCell ⟨w.heap.size, 0, none⟩ (.slice (some ⟨pB, 0, none⟩) n n)).setCell ⟨w.heap.size, 1, none⟩ (.slice (some ⟨sB, 0, none⟩) n n)) sB n (fun _ => 1) := (hsiz.far (p := ⟨w.heap.size, 0, none⟩) (by simp; omega) _).far (p := ⟨w.heap.size, 1, none⟩) (by simp; omega) _
        have hbW : Below w.heap.size w ((wr.setCell ⟨w.heap.size, 0, none⟩ (.slice (some ⟨pB, 0, none⟩) n n)).setCell ⟨w.heap.size, 1, none⟩ (.slice (some ⟨sB, 0, none⟩) n n)) := (HN.out.bel.setCell (by simp) _).setCell (by simp) _
        have HbS := Lib.hid hbS
        have HP2 := Lib.hid hpar2
        have HS2 := Lib.hid hsiz2
        have HbW := Lib.hid hbW
        clear hbS hpar hsiz hpar2 hsiz2 hbW hbR g1 g2 hk'
        go_wp2
        generalize ((wr.setCell ⟨w.heap.size, 0, none⟩ (.slice (some ⟨pB, 0, none⟩) n n)).setCell ⟨w.heap.size, 1, none⟩ (.slice (some ⟨sB, 0, none⟩) n n)) = W9 at HbS HP2 HS2 HbW ⊢
        obtain ⟨p1, p2⟩ := HbS.out.cells
        have p10 : W9.cell? ⟨w.heap.size, 0, none⟩ = some (.slice (some ⟨pB, 0, none⟩) n n) := p1 0
        have p11 : W9.cell? ⟨w.heap.size, 1, none⟩ = some (.slice (some ⟨sB, 0, none⟩) n n) := p1 1
        refine bodyPost_ret (v := .agg #[.slice (some ⟨pB, 0, none⟩) n n, .slice (some ⟨sB, 0, none⟩) n n]) (by simp [results, Try.results40, go_sem, p10, p11]) rfl ?_
        exact ⟨pB, sB, rfl, HP2.out, HS2.out, n1, Nat.le_of_lt hlp, Nat.le_of_lt hls, HbW.out⟩
  · have hnc : NC w (((((w.alloc (.cells #[.slice none 0 0, .slice none 0 0] 64)).alloc (.cells (numCells n fun _ => 0) 3)).alloc (.cells (numCells n fun _ => 0) 3)).alloc (.cells #[.slice (some ⟨w.heap.size + 1 + 1, 0, none⟩) n n, .slice (some ⟨w.heap.size + 1, 0, none⟩) n n] 64)).drew) n (w.heap.size + 1 + 1 + 1) (w.heap.size + 1 + 1) (w.heap.size + 1) (fun _ => 0) (fun _ => 0) := by
      refine ⟨((((((Below.refl _ w).alloc (Nat.le_refl _) _).alloc (by simp) _).alloc (by simp; omega) _).alloc (by simp; omega) _)).drew, Blk.drew (Blk.alloc (Blk.alloc (Blk.alloc (Blk.new' _ _ _ rfl) _) _) _), Blk.drew (Blk.new' _ _ _ (by simp)), Blk.drew (Blk.alloc (Blk.new' _ _ _ (by simp)) _), Blk.drew (Blk.alloc (Blk.alloc (Blk.new' _ _ _ (by simp)) _) _), by omega, by omega, by omega, by omega, by omega, by omega⟩
    have HNc := Lib.hid hnc
    clear hnc
    generalize ((((w.alloc (.cells #[.slice none 0 0, .slice none 0 0] 64)).alloc (.cells (numCells n fun _ => 0) 3)).alloc (.cells (numCells n fun _ => 0) 3)).alloc (.cells #[.slice (some ⟨w.heap.size + 1 + 1, 0, none⟩) n n, .slice (some ⟨w.heap.size + 1, 0, none⟩) n n] 64)).drew = W1 at HNc ⊢
    generalize w.heap.size + 1 + 1 + 1 = cB at HNc ⊢
    generalize w.heap.size + 1 + 1 = pB at HNc ⊢
    generalize w.heap.size + 1 = sB at HNc ⊢
    go_loopw [4, 11] (fun _ i wr => ∃ k : Nat, i = .int .i64 k ∧ k ≤ n ∧ NC w wr n cB pB sB (fillTo (fun x => x) k) (fillTo (fun _ => 1) k)) (fun _ i _ => n - (intOf i).toNat)
    case atStart => exact ⟨0, rfl, Nat.zero_le _, by rw [fillTo_zero, fillTo_zero]; exact HNc.out⟩
    case round =>
      obtain ⟨k, rfl, hk, hnc⟩ := hrel
      have HN := Lib.hid hnc
      obtain ⟨n1, n2, n3⟩ := (⟨hnc.ps, hnc.cp, hnc.cs⟩ : pB ≠ sB ∧ cB ≠ pB ∧ cB ≠ sB)
      have v0 := hnc.var.cells.1 0
      have v1 := hnc.var.cells.1 1
      clear hnc
      by_cases hlt : k < n
      · obtain ⟨a0, a1⟩ := HN.out.par.cell k hlt
        obtain ⟨b0, b1⟩ := HN.out.siz.cell k hlt
        go_wp2
        go_region
        all_goals go_wp2
        all_goals go_roundw
        all_goals first
          | exact ⟨k + 1, by go_num, by omega, (HN.out.drew.setP k k _ (fun i _ => fillTo_step (fun x => x) k i)).setS k 1 _ (fun i _ => fillTo_step (fun _ => 1) k i)⟩
          | exact ⟨k + 1, by go_num, by omega, (HN.out.drew.setS k 1 _ (fun i _ => fillTo_step (fun _ => 1) k i)).setP k k _ (fun i _ => fillTo_step (fun x => x) k i)⟩
          | (simp [intOf]; omega)
      · have hk' : k = n := by omega
        have hbR := HN.out.res
        obtain ⟨g1, g2⟩ := hbR.cells
        have g10 := g1 0
        have g11 := g1 1
        have g20 := g2 0
        have g21 := g2 1
        have hpar : NumAt wr pB n (fun x => x) := HN.out.par.congr (fun i hi => by unfold fillTo; rw [if_pos (by omega)])
        have hsiz : NumAt wr sB n (fun _ => 1) := HN.out.siz.congr (fun i hi => by unfold fillTo; rw [if_pos (by omega)])
        have hlp := HN.out.lp
        have hls := HN.out.ls
        have hbS := (hbR.set 0 (.slice (some ⟨pB, 0, none⟩) n n)).set 1 (.slice (some ⟨sB, 0, none⟩) n n)
        have hpar2 : NumAt ((wr.setCell ⟨w.heap.size, 0, none⟩ (.slice (some ⟨pB, 0, none⟩) n n)).setCell ⟨w.heap.size, 1, none⟩ (.slice (some ⟨sB, 0, none⟩) n n)) pB n (fun x => x) := (hpar.far (p := ⟨w.heap.size, 0, none⟩) (by simp; omega) _).far (p := ⟨w.heap.size, 1, none⟩) (by simp; omega) _
        have hsiz2 : NumAt ((wr.setCell ⟨w.heap.size, 0, none⟩ (.slice (some ⟨pB, 0, none⟩) n n)).setCell ⟨w.heap.size, 1, none⟩ (.slice (some ⟨sB, 0, none⟩) n n)) sB n (fun _ => 1) := (hsiz.far (p := ⟨w.heap.size, 0, none⟩) (by simp; omega) _).far (p := ⟨w.heap.size, 1, none⟩) (by simp; omega) _
        have hbW : Below w.heap.size w ((wr.setCell ⟨w.heap.size, 0, none⟩ (.slice (some ⟨pB, 0, none⟩) n n)).setCell ⟨w.heap.size, 1, none⟩ (.slice (some ⟨sB, 0, none⟩) n n)) := (HN.out.bel.setCell (by simp) _).setCell (by simp) _
        have HbS := Lib.hid hbS
        have HP2 := Lib.hid hpar2
        have HS2 := Lib.hid hsiz2
        have HbW := Lib.hid hbW
        clear hbS hpar hsiz hpar2 hsiz2 hbW hbR g1 g2 hk'
        go_wp2
        generalize ((wr.setCell ⟨w.heap.size, 0, none⟩ (.slice (some ⟨pB, 0, none⟩) n n)).setCell ⟨w.heap.size, 1, none⟩ (.slice (some ⟨sB, 0, none⟩) n n)) = W9 at HbS HP2 HS2 HbW ⊢
        obtain ⟨p1, p2⟩ := HbS.out.cells
        have p10 : W9.cell? ⟨w.heap.size, 0, none⟩ = some (.slice (some ⟨pB, 0, none⟩) n n) := p1 0
        have p11 : W9.cell? ⟨w.heap.size, 1, none⟩ = some (.slice (some ⟨sB, 0, none⟩) n n) := p1 1
        refine bodyPost_ret (v := .agg #[.slice (some ⟨pB, 0, none⟩) n n, .slice (some ⟨sB, 0, none⟩) n n]) (by simp [results, Try.results40, go_sem, p10, p11]) rfl ?_
        exact ⟨pB, sB, rfl, HP2.out, HS2.out, n1, Nat.le_of_lt hlp, Nat.le_of_lt hls, HbW.out⟩
  · have hnc : NC w (((((w.alloc (.cells #[.slice none 0 0, .slice none 0 0] 64)).alloc (.cells (numCells n fun _ => 0) 3)).alloc (.cells #[.slice (some ⟨w.heap.size + 1 + 1 + 1, 0, none⟩) n n, .slice (some ⟨w.heap.size + 1, 0, none⟩) n n] 64)).alloc (.cells (numCells n fun _ => 0) 3)).drew) n (w.heap.size + 1 + 1) (w.heap.size + 1 + 1 + 1) (w.heap.size + 1) (fun _ => 0) (fun _ => 0) := by
      refine ⟨((((((Below.refl _ w).alloc (Nat.le_refl _) _).alloc (by simp) _).alloc (by simp; omega) _).alloc (by simp; omega) _)).drew, Blk.drew (Blk.alloc (Blk.alloc (Blk.alloc (Blk.new' _ _ _ rfl) _) _) _), Blk.drew (Blk.alloc (Blk.new' _ _ _ (by simp)) _), Blk.drew (Blk.new' _ _ _ (by simp)), Blk.drew (Blk.alloc (Blk.alloc (Blk.new' _ _ _ (by simp)) _) _), by omega, by omega, by omega, by omega, by omega, by omega⟩
    have HNc := Lib.hid hnc
    clear hnc
    generalize ((((w.alloc (.cells #[.slice none 0 0, .slice none 0 0] 64)).alloc (.cells (numCells n fun _ => 0) 3)).alloc (.cells #[.slice (some ⟨w.heap.size + 1 + 1 + 1, 0, none⟩) n n, .slice (some ⟨w.heap.size + 1, 0, none⟩) n n] 64)).alloc (.cells (numCells n fun _ => 0) 3)).drew = W1 at HNc ⊢
    generalize w.heap.size + 1 + 1 + 1 = pB at HNc ⊢
    generalize w.heap.size + 1 + 1 = cB at HNc ⊢
    generalize w.heap.size + 1 = sB at HNc ⊢
    go_loopw [4, 11] (fun _ i wr => ∃ k : Nat, i = .int .i64 k ∧ k ≤ n ∧ NC w wr n cB pB sB (fillTo (fun x => x) k) (fillTo (fun _ => 1) k)) (fun _ i _ => n - (intOf i).toNat)
    case atStart => exact ⟨0, rfl, Nat.zero_le _, by rw [fillTo_zero, fillTo_zero]; exact HNc.out⟩
    case round =>
      obtain ⟨k, rfl, hk, hnc⟩ := hrel
      have HN := Lib.hid hnc
      obtain ⟨n1, n2, n3⟩ := (⟨hnc.ps, hnc.cp, hnc.cs⟩ : pB ≠ sB ∧ cB ≠ pB ∧ cB ≠ sB)
      have v0 := hnc.var.cells.1 0
      have v1 := hnc.var.cells.1 1
      clear hnc
      by_cases hlt : k < n
      · obtain ⟨a0, a1⟩ := HN.out.par.cell k hlt
        obtain ⟨b0, b1⟩ := HN.out.siz.cell k hlt
        go_wp2
        go_region
        all_goals go_wp2
        all_goals go_roundw
        all_goals first
          | exact ⟨k + 1, by go_num, by omega, (HN.out.drew.setP k k _ (fun i _ => fillTo_step (fun x => x) k i)).setS k 1 _ (fun i _ => fillTo_step (fun _ => 1) k i)⟩
          | exact ⟨k + 1, by go_num, by omega, (HN.out.drew.setS k 1 _ (fun i _ => fillTo_step (fun _ => 1) k i)).setP k k _ (fun i _ => fillTo_step (fun x => x) k i)⟩
          | (simp [intOf]; omega)
      · have hk' : k = n := by omega
        have hbR := HN.out.res
        obtain ⟨g1, g2⟩ := hbR.cells
        have g10 := g1 0
        have g11 := g1 1
        have g20 := g2 0
        have g21 := g2 1
        have hpar : NumAt wr pB n (fun x => x) := HN.out.par.congr (fun i hi => by unfold fillTo; rw [if_pos (by omega)])
        have hsiz : NumAt wr sB n (fun _ => 1) := HN.out.siz.congr (fun i hi => by unfold fillTo; rw [if_pos (by omega)])
        have hlp := HN.out.lp
        have hls := HN.out.ls
        have hbS := (hbR.set 0 (.slice (some ⟨pB, 0, none⟩) n n)).set 1 (.slice (some ⟨sB, 0, none⟩) n n)
        have hpar2 : NumAt ((wr.setCell ⟨w.heap.size, 0, none⟩ (.slice (some ⟨pB, 0, none⟩) n n)).setCell ⟨w.heap.size, 1, none⟩ (.slice (some ⟨sB, 0, none⟩) n n)) pB n (fun x => x) := (hpar.far (p := ⟨w.heap.size, 0, none⟩) (by simp; omega) _).far (p := ⟨w.heap.size, 1, none⟩) (by simp; omega) _
        have hsiz2 : NumAt ((wr.setCell ⟨w.heap.size, 0, none⟩ (.slice (some ⟨pB, 0, none⟩) n n)).setCell ⟨w.heap.size, 1, none⟩ (.slice (some ⟨sB, 0, none⟩) n n)) sB n (fun _ => 1) := (hsiz.far (p := ⟨w.heap.size, 0, none⟩) (by simp; omega) _).far (p := ⟨w.heap.size, 1, none⟩) (by simp; omega) _
        have hbW : Below w.heap.size w ((wr.setCell ⟨w.heap.size, 0, none⟩ (.slice (some ⟨pB, 0, none⟩) n n)).setCell ⟨w.heap.size, 1, none⟩ (.slice (some ⟨sB, 0, none⟩) n n)) := (HN.out.bel.setCell (by simp) _).setCell (by simp) _
        have HbS := Lib.hid hbS
        have HP2 := Lib.hid hpar2
        have HS2 := Lib.hid hsiz2
        have HbW := Lib.hid hbW
        clear hbS hpar hsiz hpar2 hsiz2 hbW hbR g1 g2 hk'
        go_wp2
        generalize ((wr.setCell ⟨w.heap.size, 0, none⟩ (.slice (some ⟨pB, 0, none⟩) n n)).setCell ⟨w.heap.size, 1, none⟩ (.slice (some ⟨sB, 0, none⟩) n n)) = W9 at HbS HP2 HS2 HbW ⊢
        obtain ⟨p1, p2⟩ := HbS.out.cells
        have p10 : W9.cell? ⟨w.heap.size, 0, none⟩ = some (.slice (some ⟨pB, 0, none⟩) n n) := p1 0
        have p11 : W9.cell? ⟨w.heap.size, 1, none⟩ = some (.slice (some ⟨sB, 0, none⟩) n n) := p1 1
        refine bodyPost_ret (v := .agg #[.slice (some ⟨pB, 0, none⟩) n n, .slice (some ⟨sB, 0, none⟩) n n]) (by simp [results, Try.results40, go_sem, p10, p11]) rfl ?_
        exact ⟨pB, sB, rfl, HP2.out, HS2.out, n1, Nat.le_of_lt hlp, Nat.le_of_lt hls, HbW.out⟩
  · have hnc : NC w (((((w.alloc (.cells #[.slice none 0 0, .slice none 0 0] 64)).alloc (.cells #[.slice (some ⟨w.heap.size + 1 + 1, 0, none⟩) n n, .slice (some ⟨w.heap.size + 1 + 1 + 1, 0, none⟩) n n] 64)).alloc (.cells (numCells n fun _ => 0) 3)).alloc (.cells (numCells n fun _ => 0) 3)).drew) n (w.heap.size + 1) (w.heap.size + 1 + 1) (w.heap.size + 1 + 1 + 1) (fun _ => 0) (fun _ => 0) := by
      refine ⟨((((((Below.refl _ w).alloc (Nat.le_refl _) _).alloc (by simp) _).alloc (by simp; omega) _).alloc (by simp; omega) _)).drew, Blk.drew (Blk.alloc (Blk.alloc (Blk.alloc (Blk.new' _ _ _ rfl) _) _) _), Blk.drew (Blk.alloc (Blk.alloc (Blk.new' _ _ _ (by simp)) _) _), Blk.drew (Blk.alloc (Blk.new' _ _ _ (by simp)) _), Blk.drew (Blk.new' _ _ _ (by simp)), by omega, by omega, by omega, by omega, by omega, by omega⟩
    have HNc := Lib.hid hnc
    clear hnc
    generalize ((((w.alloc (.cells #[.slice none 0 0, .slice none 0 0] 64)).alloc (.cells #[.slice (some ⟨w.heap.size + 1 + 1, 0, none⟩) n n, .slice (some ⟨w.heap.size + 1 + 1 + 1, 0, none⟩) n n] 64)).alloc (.cells (numCells n fun _ => 0) 3)).alloc (.cells (numCells n fun _ => 0) 3)).drew = W1 at HNc ⊢
    generalize w.heap.size + 1 + 1 + 1 = sB at HNc ⊢
    generalize w.heap.size + 1 + 1 = pB at HNc ⊢
    generalize w.heap.size + 1 = cB at HNc ⊢
    go_loopw [4, 11] (fun _ i wr => ∃ k : Nat, i = .int .i64 k ∧ k ≤ n ∧ NC w wr n cB pB sB (fillTo (fun x => x) k) (fillTo (fun _ => 1) k)) (fun _ i _ => n - (intOf i).toNat)
    case atStart => exact ⟨0, rfl, Nat.zero_le _, by rw [fillTo_zero, fillTo_zero]; exact HNc.out⟩
    case round =>
      obtain ⟨k, rfl, hk, hnc⟩ := hrel
      have HN := Lib.hid hnc
      obtain ⟨n1, n2, n3⟩ := (⟨hnc.ps, hnc.cp, hnc.cs⟩ : pB ≠ sB ∧ cB ≠ pB ∧ cB ≠ sB)
      have v0 := hnc.var.cells.1 0
      have v1 := hnc.var.cells.1 1
      clear hnc
      by_cases hlt : k < n
      · obtain ⟨a0, a1⟩ := HN.out.par.cell k hlt
        obtain ⟨b0, b1⟩ := HN.out.siz.cell k hlt
        go_wp2
        go_region
        all_goals go_wp2
        all_goals go_roundw
        all_goals first
          | exact ⟨k + 1, by go_num, by omega, (HN.out.drew.setP k k _ (fun i _ => fillTo_step (fun x => x) k i)).setS k 1 _ (fun i _ => fillTo_step (fun _ => 1) k i)⟩
          | exact ⟨k + 1, by go_num, by omega, (HN.out.drew.setS k 1 _ (fun i _ => fillTo_step (fun _ => 1) k i)).setP k k _ (fun i _ => fillTo_step (fun x => x) k i)⟩
          | (simp [intOf]; omega)
      · have hk' : k = n := by omega
        have hbR := HN.out.res
        obtain ⟨g1, g2⟩ := hbR.cells
        have g10 := g1 0
        have g11 := g1 1
        have g20 := g2 0
        have g21 := g2 1
        have hpar : NumAt wr pB n (fun x => x) := HN.out.par.congr (fun i hi => by unfold fillTo; rw [if_pos (by omega)])
        have hsiz : NumAt wr sB n (fun _ => 1) := HN.out.siz.congr (fun i hi => by unfold fillTo; rw [if_pos (by omega)])
        have hlp := HN.out.lp
        have hls := HN.out.ls
        have hbS := (hbR.set 0 (.slice (some ⟨pB, 0, none⟩) n n)).set 1 (.slice (some ⟨sB, 0, none⟩) n n)
        have hpar2 : NumAt ((wr.setCell ⟨w.heap.size, 0, none⟩ (.slice (some ⟨pB, 0, none⟩) n n)).setCell ⟨w.heap.size, 1, none⟩ (.slice (some ⟨sB, 0, none⟩) n n)) pB n (fun x => x) := (hpar.far (p := ⟨w.heap.size, 0, none⟩) (by simp; omega) _).far (p := ⟨w.heap.size, 1, none⟩) (by simp; omega) _
        have hsiz2 : NumAt ((wr.setCell ⟨w.heap.size, 0, none⟩ (.slice (some ⟨pB, 0, none⟩) n n)).setCell ⟨w.heap.size, 1, none⟩ (.slice (some ⟨sB, 0, none⟩) n n)) sB n (fun _ => 1) := (hsiz.far (p := ⟨w.heap.size, 0, none⟩) (by simp; omega) _).far (p := ⟨w.heap.size, 1, none⟩) (by simp; omega) _
        have hbW : Below w.heap.size w ((wr.setCell ⟨w.heap.size, 0, none⟩ (.slice (some ⟨pB, 0, none⟩) n n)).setCell ⟨w.heap.size, 1, none⟩ (.slice (some ⟨sB, 0, none⟩) n n)) := (HN.out.bel.setCell (by simp) _).setCell (by simp) _
        have HbS := Lib.hid hbS
        have HP2 := Lib.hid hpar2
        have HS2 := Lib.hid hsiz2
        have HbW := Lib.hid hbW
        clear hbS hpar hsiz hpar2 hsiz2 hbW hbR g1 g2 hk'
        go_wp2
        generalize ((wr.setCell ⟨w.heap.size, 0, none⟩ (.slice (some ⟨pB, 0, none⟩) n n)).setCell ⟨w.heap.size, 1, none⟩ (.slice (some ⟨sB, 0, none⟩) n n)) = W9 at HbS HP2 HS2 HbW ⊢
        obtain ⟨p1, p2⟩ := HbS.out.cells
        have p10 : W9.cell? ⟨w.heap.size, 0, none⟩ = some (.slice (some ⟨pB, 0, none⟩) n n) := p1 0
        have p11 : W9.cell? ⟨w.heap.size, 1, none⟩ = some (.slice (some ⟨sB, 0, none⟩) n n) := p1 1
        refine bodyPost_ret (v := .agg #[.slice (some ⟨pB, 0, none⟩) n n, .slice (some ⟨sB, 0, none⟩) n n]) (by simp [results, Try.results40, go_sem, p10, p11]) rfl ?_
        exact ⟨pB, sB, rfl, HP2.out, HS2.out, n1, Nat.le_of_lt hlp, Nat.le_of_lt hls, HbW.out⟩
  · have hnc : NC w (((((w.alloc (.cells #[.slice none 0 0, .slice none 0 0] 64)).alloc (.cells #[.slice (some ⟨w.heap.size + 1 + 1 + 1, 0, none⟩) n n, .slice (some ⟨w.heap.size + 1 + 1, 0, none⟩) n n] 64)).alloc (.cells (numCells n fun _ => 0) 3)).alloc (.cells (numCells n fun _ => 0) 3)).drew) n (w.heap.size + 1) (w.heap.size + 1 + 1 + 1) (w.heap.size + 1 + 1) (fun _ => 0) (fun _ => 0) := by
      refine ⟨((((((Below.refl _ w).alloc (Nat.le_refl _) _).alloc (by simp) _).alloc (by simp; omega) _).alloc (by simp; omega) _)).drew, Blk.drew (Blk.alloc (Blk.alloc (Blk.alloc (Blk.new' _ _ _ rfl) _) _) _), Blk.drew (Blk.alloc (Blk.alloc (Blk.new' _ _ _ (by simp)) _) _), Blk.drew (Blk.new' _ _ _ (by simp)), Blk.drew (Blk.alloc (Blk.new' _ _ _ (by simp)) _), by omega, by omega, by omega, by omega, by omega, by omega⟩
    have HNc := Lib.hid hnc
    clear hnc
    generalize ((((w.alloc (.cells #[.slice none 0 0, .slice none 0 0] 64)).alloc (.cells #[.slice (some ⟨w.heap.size + 1 + 1 + 1, 0, none⟩) n n, .slice (some ⟨w.heap.size + 1 + 1, 0, none⟩) n n] 64)).alloc (.cells (numCells n fun _ => 0) 3)).alloc (.cells (numCells n fun _ => 0) 3)).drew = W1 at HNc ⊢
    generalize w.heap.size + 1 + 1 + 1 = pB at HNc ⊢
    generalize w.heap.size + 1 + 1 = sB at HNc ⊢
    generalize w.heap.size + 1 = cB at HNc ⊢
    go_loopw [4, 11] (fun _ i wr => ∃ k : Nat, i = .int .i64 k ∧ k ≤ n ∧ NC w wr n cB pB sB (fillTo (fun x => x) k) (fillTo (fun _ => 1) k)) (fun _ i _ => n - (intOf i).toNat)
    case atStart => exact ⟨0, rfl, Nat.zero_le _, by rw [fillTo_zero, fillTo_zero]; exact HNc.out⟩
    case round =>
      obtain ⟨k, rfl, hk, hnc⟩ := hrel
      have HN := Lib.hid hnc
      obtain ⟨n1, n2, n3⟩ := (⟨hnc.ps, hnc.cp, hnc.cs⟩ : pB ≠ sB ∧ cB ≠ pB ∧ cB ≠ sB)
      have v0 := hnc.var.cells.1 0
      have v1 := hnc.var.cells.1 1
      clear hnc
      by_cases hlt : k < n
      · obtain ⟨a0, a1⟩ := HN.out.par.cell k hlt
        obtain ⟨b0, b1⟩ := HN.out.siz.cell k hlt
        go_wp2
        go_region
        all_goals go_wp2
        all_goals go_roundw
        all_goals first
          | exact ⟨k + 1, by go_num, by omega, (HN.out.drew.setP k k _ (fun i _ => fillTo_step (fun x => x) k i)).setS k 1 _ (fun i _ => fillTo_step (fun _ => 1) k i)⟩
          | exact ⟨k + 1, by go_num, by omega, (HN.out.drew.setS k 1 _ (fun i _ => fillTo_step (fun _ => 1) k i)).setP k k _ (fun i _ => fillTo_step (fun x => x) k i)⟩
          | (simp [intOf]; omega)
      · have hk' : k = n := by omega
        have hbR := HN.out.res
        obtain ⟨g1, g2⟩ := hbR.cells
        have g10 := g1 0
        have g11 := g1 1
        have g20 := g2 0
        have g21 := g2 1
        have hpar : NumAt wr pB n (fun x => x) := HN.out.par.congr (fun i hi => by unfold fillTo; rw [if_pos (by omega)])
        have hsiz : NumAt wr sB n (fun _ => 1) := HN.out.siz.congr (fun i hi => by unfold fillTo; rw [if_pos (by omega)])
        have hlp := HN.out.lp
        have hls := HN.out.ls
        have hbS := (hbR.set 0 (.slice (some ⟨pB, 0, none⟩) n n)).set 1 (.slice (some ⟨sB, 0, none⟩) n n)
        have hpar2 : NumAt ((wr.setCell ⟨w.heap.size, 0, none⟩ (.slice (some ⟨pB, 0, none⟩) n n)).setCell ⟨w.heap.size, 1, none⟩ (.slice (some ⟨sB, 0, none⟩) n n)) pB n (fun x => x) := (hpar.far (p := ⟨w.heap.size, 0, none⟩) (by simp; omega) _).far (p := ⟨w.heap.size, 1, none⟩) (by simp; omega) _
        have hsiz2 : NumAt ((wr.setCell ⟨w.heap.size, 0, none⟩ (.slice (some ⟨pB, 0, none⟩) n n)).setCell ⟨w.heap.size, 1, none⟩ (.slice (some ⟨sB, 0, none⟩) n n)) sB n (fun _ => 1) := (hsiz.far (p := ⟨w.heap.size, 0, none⟩) (by simp; omega) _).far (p := ⟨w.heap.size, 1, none⟩) (by simp; omega) _
        have hbW : Below w.heap.size w ((wr.setCell ⟨w.heap.size, 0, none⟩ (.slice (some ⟨pB, 0, none⟩) n n)).setCell ⟨w.heap.size, 1, none⟩ (.slice (some ⟨sB, 0, none⟩) n n)) := (HN.out.bel.setCell (by simp) _).setCell (by simp) _
        have HbS := Lib.hid hbS
        have HP2 := Lib.hid hpar2
        have HS2 := Lib.hid hsiz2
        have HbW := Lib.hid hbW
        clear hbS hpar hsiz hpar2 hsiz2 hbW hbR g1 g2 hk'
        go_wp2
        generalize ((wr.setCell ⟨w.heap.size, 0, none⟩ (.slice (some ⟨pB, 0, none⟩) n n)).setCell ⟨w.heap.size, 1, none⟩ (.slice (some ⟨sB, 0, none⟩) n n)) = W9 at HbS HP2 HS2 HbW ⊢
        obtain ⟨p1, p2⟩ := HbS.out.cells
        have p10 : W9.cell? ⟨w.heap.size, 0, none⟩ = some (.slice (some ⟨pB, 0, none⟩) n n) := p1 0
        have p11 : W9.cell? ⟨w.heap.size, 1, none⟩ = some (.slice (some ⟨sB, 0, none⟩) n n) := p1 1
        refine bodyPost_ret (v := .agg #[.slice (some ⟨pB, 0, none⟩) n n, .slice (some ⟨sB, 0, none⟩) n n]) (by simp [results, Try.results40, go_sem, p10, p11]) rfl ?_
        exact ⟨pB, sB, rfl, HP2.out, HS2.out, n1, Nat.le_of_lt hlp, Nat.le_of_lt hls, HbW.out⟩
end Go.Proofs.Ytipehahfbcbigaa
