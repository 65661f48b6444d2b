/-
  trefoilref06.Reach.
-/
import Derived.Test.YtnhdgndjpkdhdaaGVisit
import Derived.StillTailTactics
import Derived.Deep.RegionWith
import Derived.Deep.RegionHeld3
namespace Go.Proofs.Ytnhdgndjpkdhdaa
open Go.RowKit

def RGr.reach (g : RGr) : List Nat := g.gr.reach
theorem reach_eq (g : RGr) : g.reach = G.visit (fun a => (g.gr.f a).args) (g.nodes.length + 1) g.root.toNat [] := by
  unfold RGr.reach G.Gr.reach
  simp [RGr.gr]

theorem infoBool : (Try.prog.info? 4).map (fun i => (i.zero, i.size, i.bytes)) = some (some (.bool false), 1, 1) := by kernel_rfl
theorem makeMet (W : World) (N : Nat) (hN : N ≤ 2000000) : Sem.run Try.prog (Instr.makeSlice 45 (.int .i64 N) (.int .i64 N)) W = .ok (.slice (some ⟨W.heap.size, 0, none⟩) N N) (W.alloc (.cells (metCells N []) 4)) := by
  obtain ⟨i0, hi, hz0, hz1, hz2⟩ := info_parts infoBool
  have h := run_makeSlice (P := Try.prog) W 45 4 i0 (.bool false) Try.underlying45 hi hz0 .i64 .i64 N N (by omega) (Int.le_refl _) (by rw [hz1]; simp; omega) (by rw [hz2]; omega) (by omega)
  rw [hz1] at h
  simp only [Int.toNat_natCast, Nat.mul_one] at h
  have e : madeCells (Value.bool false).cells N = metCells N [] := by
    apply Array.ext
    · simp [madeCells, metCells, Value.cells]
    · intro i h1 h2
      have h3 : i % 1 = 0 := Nat.mod_one i
      simp [madeCells, metCells, Value.cells, h3]
  rw [e] at h
  exact h

set_option maxRecDepth 100000 in
set_option maxHeartbeats 2000000 in
theorem greach_no (w : World) (S : Nat → Prop) (g : RGr) (gv : Value) (hok : g.ok = false) (hS : ∀ k, S k → k < w.heap.size) (he : GrV w S g gv) :
    Calls Try.prog 35 #[gv] w fun e w' => e = .returned (.slice none 0 0) ∧ Below w.heap.size w w' := by
  obtain ⟨A, cN, hgv, hcN, hcN9, oN⟩ := he
  subst hgv
  have HON := Lib.hid oN
  have HS := Lib.hid hS
  obtain ⟨w1, hw1⟩ : ∃ w1, w1 = w.alloc (.cells #[.slice A g.nodes.length cN, .int .i64 g.root] 24) := ⟨_, rfl⟩
  have hsz1 : w1.heap.size = w.heap.size + 1 := by rw [hw1]; simp
  have hb1 : Below w.heap.size w w1 := by rw [hw1]; exact (Below.refl _ _).alloc (Nat.le_refl _) _
  have hbw : ∀ W, Below w1.heap.size w1 W → Below w.heap.size w W := fun W hW => hb1.trans (hW.mono (by omega))
  have hrow : ∀ W, Below w1.heap.size w1 W → ∀ j, W.cell? ⟨w.heap.size, j, none⟩ = (#[.slice A g.nodes.length cN, .int .i64 g.root] : Array Value)[j]? := fun W hW j =>
    cell_of_row W w.heap.size j _ _ _ ((hW.block w.heap.size (by omega)).trans (by rw [hw1]; exact heap_alloc_new w _))
  have hgr : ∀ W, Below w1.heap.size w1 W → GrV W S g (.agg #[.slice A g.nodes.length cN, .int .i64 g.root]) := fun W hW =>
    ⟨A, cN, rfl, hcN, hcN9, NdsO.keep (fun k hk => ⟨hk, (hbw W hW).block k (HS.out k hk)⟩) _ _ HON.out⟩
  have hlt : ∀ W, Below w1.heap.size w1 W → ∀ k, S k → k < W.heap.size := fun W hW k hk => Nat.lt_of_lt_of_le (HS.out k hk) (hbw W hW).size
  have HRow := Lib.hid hrow
  have HBw := Lib.hid hbw
  have HGr := Lib.hid hgr
  have HLt := Lib.hid hlt
  clear hS oN hrow hbw hgr hlt hb1
  go_enter Try.func35, Try.ntmps35
  go_wp2_with fail
  rw [← hw1]
  clear hw1
  refine (gcheck_r w1 S g _ (HLt.out _ (Below.refl _ _)) (HGr.out _ (Below.refl _ _))).mono ?_
  rcases RGr.code_no hok with hcd | hcd <;> rw [hcd] <;> clear hcd
  all_goals
   rintro e w2 ⟨rfl, hb2⟩
   have hr2 := HRow.out w2 hb2
   obtain ⟨c0, c1⟩ := (⟨hr2 0, hr2 1⟩ : _ ∧ _)
   have HB2 := Lib.hid hb2
   clear hb2 hr2
   go_wp2
   go_ret
   exact ⟨rfl, HBw.out _ HB2.out⟩

set_option maxRecDepth 100000 in
set_option maxHeartbeats 2000000 in
theorem greach_r (w : World) (S : Nat → Prop) (g : RGr) (gv : Value) (hok : g.ok = true) (hS : ∀ k, S k → k < w.heap.size) (he : GrV w S g gv) :
    Calls Try.prog 35 #[gv] w fun e w' => ∃ A c, e = .returned (.slice A g.reach.length c) ∧ g.reach.length ≤ c ∧ c ≤ maxLen ∧ IntsO w' (fun k => w.heap.size ≤ k ∧ k < w'.heap.size) (g.reach.map Int.ofNat) A ∧ Below w.heap.size w w' := by
  have hN9 : g.nodes.length ≤ 2000000 := Nat.le_trans (RGr.ok_len hok) (by decide)
  obtain ⟨A, cN, hgv, hcN, hcN9, oN⟩ := he
  subst hgv
  have HON := Lib.hid oN
  have HS := Lib.hid hS
  obtain ⟨w1, hw1⟩ : ∃ w1, w1 = w.alloc (.cells #[.slice A g.nodes.length cN, .int .i64 g.root] 24) := ⟨_, rfl⟩
  have hsz1 : w1.heap.size = w.heap.size + 1 := by rw [hw1]; simp
  have hb1 : Below w.heap.size w w1 := by rw [hw1]; exact (Below.refl _ _).alloc (Nat.le_refl _) _
  have hbw : ∀ W, Below w1.heap.size w1 W → Below w.heap.size w W := fun W hW => hb1.trans (hW.mono (by omega))
  have hrow : ∀ W, Below w1.heap.size w1 W → ∀ j, W.cell? ⟨w.heap.size, j, none⟩ = (#[.slice A g.nodes.length cN, .int .i64 g.root] : Array Value)[j]? := fun W hW j =>
    cell_of_row W w.heap.size j _ _ _ ((hW.block w.heap.size (by omega)).trans (by rw [hw1]; exact heap_alloc_new w _))
  have hgr : ∀ W, Below w1.heap.size w1 W → GrV W S g (.agg #[.slice A g.nodes.length cN, .int .i64 g.root]) := fun W hW =>
    ⟨A, cN, rfl, hcN, hcN9, NdsO.keep (fun k hk => ⟨hk, (hbw W hW).block k (HS.out k hk)⟩) _ _ HON.out⟩
  have hlt : ∀ W, Below w1.heap.size w1 W → ∀ k, S k → k < W.heap.size := fun W hW k hk => Nat.lt_of_lt_of_le (HS.out k hk) (hbw W hW).size
  have HRow := Lib.hid hrow
  have HBw := Lib.hid hbw
  have HGr := Lib.hid hgr
  have HLt := Lib.hid hlt
  clear hS oN hrow hbw hgr hlt hb1
  go_enter Try.func35, Try.ntmps35
  go_wp2_with fail
  rw [← hw1]
  clear hw1
  refine (gcheck_r w1 S g _ (HLt.out _ (Below.refl _ _)) (HGr.out _ (Below.refl _ _))).mono ?_
  rw [RGr.code_ok hok]
  rintro e w2 ⟨rfl, hb2⟩
  have hr2 := HRow.out w2 hb2
  obtain ⟨c0, c1⟩ := (⟨hr2 0, hr2 1⟩ : _ ∧ _)
  have HB2 := Lib.hid hb2
  clear hb2 hr2
  have hroot : 0 ≤ g.root ∧ g.root < g.nodes.length := by
    have h := hok
    simp only [RGr.ok, Bool.and_eq_true, decide_eq_true_eq] at h
    exact h.2.1
  have hN0 : 0 < g.nodes.length := by omega
  have hvis : Calls Try.prog 52 #[.agg #[.slice A g.nodes.length cN, .int .i64 g.root], .int .i64 g.root, .slice (some ⟨w2.heap.size, 0, none⟩) g.nodes.length g.nodes.length, .slice none 0 0] (w2.alloc (.cells (metCells g.nodes.length []) 4)).drew fun e w' => ∃ A c, e = .returned (.slice A g.reach.length c) ∧ g.reach.length ≤ c ∧ c ≤ maxLen ∧ IntsO w' (fun k => w.heap.size ≤ k ∧ k < w'.heap.size) (g.reach.map Int.ofNat) A ∧ Below w1.heap.size w1 w' := by
    have hz2 := HB2.out.size
    have hbb : Below w1.heap.size w1 (w2.alloc (.cells (metCells g.nodes.length []) 4)).drew := (HB2.out.alloc hz2 _).drew
    have h := gvisit_any g hok S w2.heap.size w2.heap.size (g.nodes.length + 1) g.root.toNat [] (w2.alloc (.cells (metCells g.nodes.length []) 4)).drew _ (.slice none 0 0) g.nodes.length (by omega) (by simp) (fun x hx => by cases hx) (by simp) (HLt.out _ HB2.out) (Nat.le_refl _) (by simp [World.drew]) (HGr.out _ hbb) (Nat.le_refl _) (by unfold maxLen; omega)
      (gheap_at _ _ _ rfl) (RowG.nil _ _ _) (by simp [Value.ownBlock])
    rw [Int.toNat_of_nonneg hroot.1, ← reach_eq] at h
    refine h.mono ?_
    rintro e w4 ⟨v', rfl, _, hr, _, hk⟩
    obtain ⟨A4, c4, rfl, g1, g2, g3⟩ := hr.ints (S' := fun k => w.heap.size ≤ k ∧ k < w4.heap.size) (fun _ e => e.elim) (fun k h1 h2 => ⟨by omega, h2⟩)
    rw [List.length_map] at g1 ⊢
    refine ⟨A4, c4, rfl, g1, g2, g3, hbb.trans (hk.below hbb.size (fun i hi e => ?_))⟩
    rcases e with e | e
    · omega
    · simp [Value.ownBlock] at e
  have HVis := Lib.hid hvis
  have hc := HRow.out
  clear hvis
  have HC := Lib.hid (fun W (hW : Below w1.heap.size w1 W) => (⟨hc W hW 0, hc W hW 1⟩ : W.cell? ⟨w.heap.size, 0, none⟩ = some (.slice A g.nodes.length cN) ∧ W.cell? ⟨w.heap.size, 1, none⟩ = some (.int .i64 g.root)))
  have hx0 := HC.out w2 HB2.out
  clear hc c0 c1
  go_wp2_with fail
  go_region_held3 (fun W => W.cell? ⟨w.heap.size, 0, none⟩ = some (.slice A g.nodes.length cN) ∧ W.cell? ⟨w.heap.size, 1, none⟩ = some (.int .i64 g.root))
    (first | exact hx0 | (refine HC.out _ ?_; (· repeat (first | assumption | exact HB2.out | exact HB4.out | refine Below.alloc ?_ (by have := HB2.out.size; simp; omega) _ | refine Below.drew ?_ | refine Below.drewN ?_ _))))
    (first | (rw [makeMet _ _ hN9]) | (go_at_call 52; refine HVis.out.mono ?_; rintro e w4 ⟨A4, c4, rfl, g1, g2, g3, g4⟩; have HB4 := Lib.hid g4))
  go_wp2
  go_ret
  exact ⟨A4, c4, rfl, g1, g2, g3, HBw.out _ HB4.out⟩
end Go.Proofs.Ytnhdgndjpkdhdaa
