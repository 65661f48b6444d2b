/-
  graph.Same.
-/
import Derived.Test.YtipehahfbcbigaaDSame
namespace Go.Proofs.Ytipehahfbcbigaa
open Go.RowKit

set_option maxRecDepth 100000 in
set_option maxHeartbeats 1000000 in
theorem dsame_u (w : World) (S1 S2 : Nat → Prop) (g h : RGr) (gv hv : Value) (b : Bool) (hS1 : ∀ k, S1 k → k < w.heap.size) (hS2 : ∀ k, S2 k → k < w.heap.size) (hg : GrV w S1 g gv) (hh : GrV w S2 h hv)
    (hb : b = true ↔ g.ok = true ∧ h.ok = true ∧ G.Same g.gr.f g.root.toNat h.gr.f h.root.toNat) :
    Calls Try.prog 21 #[gv, hv] w fun e w' => e = .returned (.bool b) ∧ Below w.heap.size w w' := by
  have hgr : ∀ W, Below w.heap.size w W → GrV W S1 g gv ∧ GrV W S2 h hv ∧ (∀ k, S1 k → k < W.heap.size) ∧ (∀ k, S2 k → k < W.heap.size) := fun W hW =>
    ⟨hg.keep (fun k hk => ⟨hk, hW.block k (hS1 k hk)⟩), hh.keep (fun k hk => ⟨hk, hW.block k (hS2 k hk)⟩), fun k hk => Nat.lt_of_lt_of_le (hS1 k hk) hW.size, fun k hk => Nat.lt_of_lt_of_le (hS2 k hk) hW.size⟩
  obtain ⟨gA, gc, rfl, _, _, _⟩ := hg
  obtain ⟨hA, hc, rfl, _, _, _⟩ := hh
  obtain ⟨w1, hw1⟩ : ∃ w1, w1 = (w.alloc (.cells #[.slice gA g.nodes.length gc, .int .i64 g.root] 24)).alloc (.cells #[.slice hA h.nodes.length hc, .int .i64 h.root] 24) := ⟨_, rfl⟩
  have hsz1 : w1.heap.size = w.heap.size + 2 := by rw [hw1]; simp
  have hb1 : Below w.heap.size w w1 := by rw [hw1]; exact ((Below.refl _ _).alloc (Nat.le_refl _) _).alloc (by simp) _
  have hq0 : Blk w1 w.heap.size (.cells #[.slice gA g.nodes.length gc, .int .i64 g.root] 24 (0, 0)) := by rw [hw1]; exact (Blk.new' _ _ _ rfl).alloc _
  have hq1 : Blk w1 (w.heap.size + 1) (.cells #[.slice hA h.nodes.length hc, .int .i64 h.root] 24 (0, 0)) := by rw [hw1]; exact Blk.new' _ _ _ (by simp)
  have hcell : ∀ W, BelC w1 W → (W.cell? ⟨w.heap.size, 0, none⟩ = some (.slice gA g.nodes.length gc) ∧ W.cell? ⟨w.heap.size, 1, none⟩ = some (.int .i64 g.root) ∧ W.cell? ⟨w.heap.size + 1, 0, none⟩ = some (.slice hA h.nodes.length hc) ∧ W.cell? ⟨w.heap.size + 1, 1, none⟩ = some (.int .i64 h.root)) := fun W hW => ⟨BelC.old hW (hq0.cells.1 0), BelC.old hW (hq0.cells.1 1), BelC.old hW (hq1.cells.1 0), BelC.old hW (hq1.cells.1 1)⟩
  have HC := Lib.hid hcell
  have HGr := Lib.hid (fun W hW => hgr W (hb1.trans (Below.mono (show BelC w1 W from hW) hb1.size)))
  have hc0 := hcell w1 (BelC.refl _)
  have HB := Lib.hid hb
  have HB1 := Lib.hid hb1
  clear hS1 hS2 hgr hb hb1 hq0 hq1 hcell
  go_enter Try.func21, Try.ntmps21
  go_wp2_with fail
  rw [← hw1]
  clear hw1
  refine (check_r w1 S1 g _ (HGr.out _ (BelC.refl _)).2.2.1 (HGr.out _ (BelC.refl _)).1).mono ?_
  rcases hok : g.ok with _ | _
  · have hb0 : b = false := by
      rcases hbb : b with _ | _
      · rfl
      · have := (HB.out.1 hbb).1; rw [hok] at this; cases this
    rcases RGr.code_no hok with hcd | hcd <;> rw [hcd] <;> clear hcd hok
    all_goals
     rintro e w2 ⟨rfl, hb2⟩
     go_wp2
     go_ret
     exact ⟨by rw [hb0]; rfl, HB1.out.trans (hb2.mono HB1.out.size)⟩
  · rw [RGr.code_ok hok]
    rintro e w2 ⟨rfl, hb2⟩
    have hchk := check_r w2 S2 h _ (HGr.out _ hb2).2.2.2 (HGr.out _ hb2).2.1
    have HChk := Lib.hid hchk
    have HB2 := Lib.hid (show BelC w1 w2 from hb2)
    obtain ⟨k0, k1, k2, k3⟩ := HC.out w2 hb2
    have HOk := Lib.hid hok
    clear hok hchk hb2
    rcases hok2 : h.ok with _ | _
    · have hb0 : b = false := by
        rcases hbb : b with _ | _
        · rfl
        · have := (HB.out.1 hbb).2.1; rw [hok2] at this; cases this
      have hchk := HChk.out
      rcases RGr.code_no hok2 with hcd | hcd <;> rw [hcd] at hchk <;> have HC2 := Lib.hid hchk <;> clear hcd hok2 hchk
      all_goals
       go_wp2_with (go_at_call 13; refine HC2.out.mono ?_; rintro e w3 ⟨rfl, hb3⟩)
       go_ret
       exact ⟨by rw [hb0]; rfl, HB1.out.trans ((Below.trans HB2.out (hb3.mono (Below.size HB2.out))).mono HB1.out.size)⟩
    · have hchk := HChk.out
      rw [RGr.code_ok hok2] at hchk
      have HC2 := Lib.hid hchk
      have HOk2 := Lib.hid hok2
      clear hchk hok2
      go_wp2_with (first | (go_at_call 13; refine HC2.out.mono ?_; rintro e w3 ⟨rfl, hb3⟩; have HB3 := Lib.hid (show BelC w1 w3 from Below.trans HB2.out (hb3.mono (Below.size HB2.out))); obtain ⟨j0, j1, j2, j3⟩ := HC.out w3 HB3.out; clear hb3) | (go_at_call 33; refine (same_r w3 g h S1 S2 _ _ HOk.out HOk2.out (HGr.out _ HB3.out).2.2.1 (HGr.out _ HB3.out).2.2.2 (HGr.out _ HB3.out).1 (HGr.out _ HB3.out).2.1 b ⟨fun e => (HB.out.1 e).2.2, fun e => HB.out.2 ⟨HOk.out, HOk2.out, e⟩⟩).mono ?_; rintro e w4 ⟨rfl, hb4⟩))
      go_ret
      exact ⟨rfl, HB1.out.trans ((Below.trans HB3.out (hb4.mono (Below.size HB3.out))).mono HB1.out.size)⟩
end Go.Proofs.Ytipehahfbcbigaa
