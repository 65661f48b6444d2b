/-
  graph.Reach, graph.Free.
-/
import Derived.Test.YtnhdgndjpkdhdaaDReach
namespace Go.Proofs.Ytnhdgndjpkdhdaa
open Go.RowKit

set_option maxRecDepth 100000 in
set_option maxHeartbeats 2000000 in
theorem dreach_u (w : World) (S : Nat → Prop) (g : RGr) (gv : Value) (hS : ∀ k, S k → k < w.heap.size) (he : GrV w S g gv) :
    Calls Try.prog 32 #[gv] w fun e w' => ∃ A c, e = .returned (.slice A g.reachU.length c) ∧ g.reachU.length ≤ c ∧ c ≤ maxLen ∧ IntsO w' (fun k => w.heap.size ≤ k ∧ k < w'.heap.size) (g.reachU.map Int.ofNat) A ∧ Below w.heap.size w w' := by
  obtain ⟨A, cN, hgv, hcN, hcN9, oN⟩ := he
  subst hgv
  obtain ⟨L, hL⟩ : ∃ L, L = g.reachU := ⟨_, rfl⟩
  rw [← hL]
  have HL := Lib.hid hL
  clear hL
  have HON := Lib.hid oN
  have HS := Lib.hid hS
  obtain ⟨w1, hw1⟩ : ∃ w1, w1 = w.alloc (.cells #[.slice A g.nodes.length cN, .int .i64 g.root] 24) := ⟨_, rfl⟩
  have hsz1 : w1.heap.size = w.heap.size + 1 := by rw [hw1]; simp
  have hb1 : Below w.heap.size w w1 := by rw [hw1]; exact (Below.refl _ _).alloc (Nat.le_refl _) _
  have hbw : ∀ W, Below w1.heap.size w1 W → Below w.heap.size w W := fun W hW => hb1.trans (hW.mono (by omega))
  have hrow : ∀ W, Below w1.heap.size w1 W → ∀ j, W.cell? ⟨w.heap.size, j, none⟩ = (#[.slice A g.nodes.length cN, .int .i64 g.root] : Array Value)[j]? := fun W hW j =>
    cell_of_row W w.heap.size j _ _ _ ((hW.block w.heap.size (by omega)).trans (by rw [hw1]; exact heap_alloc_new w _))
  have hgr : ∀ W, Below w1.heap.size w1 W → GrV W S g (.agg #[.slice A g.nodes.length cN, .int .i64 g.root]) := fun W hW =>
    ⟨A, cN, rfl, hcN, hcN9, NdsO.keep (fun k hk => ⟨hk, (hbw W hW).block k (HS.out k hk)⟩) _ _ HON.out⟩
  have hlt : ∀ W, Below w1.heap.size w1 W → ∀ k, S k → k < W.heap.size := fun W hW k hk => Nat.lt_of_lt_of_le (HS.out k hk) (hbw W hW).size
  have HRow := Lib.hid hrow
  have HBw := Lib.hid hbw
  have HGr := Lib.hid hgr
  have HLt := Lib.hid hlt
  clear hS oN hrow hbw hgr hlt hb1
  go_enter Try.func32, Try.ntmps32
  go_wp2_with fail
  rw [← hw1]
  clear hw1
  refine (check_r w1 S g _ (HLt.out _ (Below.refl _ _)) (HGr.out _ (Below.refl _ _))).mono ?_
  rcases hok : g.ok with _ | _
  · have hLe : L = [] := by rw [HL.out]; unfold RGr.reachU; rw [hok]; rfl
    subst hLe
    rcases RGr.code_no hok with hcd | hcd <;> rw [hcd] <;> clear hcd
    all_goals
     rintro e w2 ⟨rfl, hb2⟩
     have hr2 := HRow.out w2 hb2
     obtain ⟨c0, c1⟩ := (⟨hr2 0, hr2 1⟩ : _ ∧ _)
     have HB2 := Lib.hid hb2
     clear hb2 hr2
     go_wp2
     go_ret
     exact ⟨none, 0, rfl, Nat.le_refl _, Nat.zero_le _, trivial, HBw.out _ HB2.out⟩
  · have hLe : L = g.reach := by rw [HL.out]; unfold RGr.reachU; rw [hok]; rfl
    subst hLe
    rw [RGr.code_ok hok]
    rintro e w2 ⟨rfl, hb2⟩
    have hr2 := HRow.out w2 hb2
    obtain ⟨c0, c1⟩ := (⟨hr2 0, hr2 1⟩ : _ ∧ _)
    have HB2 := Lib.hid hb2
    have HOk := Lib.hid hok
    clear hb2 hr2 hok
    go_wp2_with (go_at_call 50; refine (reach_r _ S g _ HOk.out (HLt.out _ HB2.out) (HGr.out _ HB2.out)).mono ?_; rintro e w4 ⟨A4, c4, rfl, g1, g2, g3, g4⟩; have G3 := Lib.hid g3; have G4 := Lib.hid g4; clear g3 g4)
    go_ret
    refine ⟨A4, c4, rfl, g1, g2, ?_, HBw.out _ (HB2.out.trans (G4.out.mono HB2.out.size))⟩
    exact IntsO.keep (fun k hk => ⟨⟨by have := HB2.out.size; omega, hk.2⟩, rfl⟩) _ _ G3.out

def RNd.dfree (x : RNd) : Bool := decide (x.kind = 1) || x.op
theorem RNd.dfree_eq {N : Nat} {x : RNd} (h : x.ok N = true) : x.dfree = x.free := by
  simp only [RNd.ok, RNd.own, Bool.and_eq_true] at h
  unfold RNd.dfree RNd.free
  by_cases h1 : x.kind = 1
  · simp [h1]
  · by_cases h2 : x.kind = 2
    · have h3 := h.2
      rw [if_neg h1, if_pos h2] at h3
      simp at h3
      simp [h2, h3]
    · by_cases h4 : x.kind = 3
      · simp [h4]
      · have h3 := h.2
        rw [if_neg h1, if_neg h2, if_neg h4] at h3
        cases h3
theorem ok_node {g : RGr} (h : g.ok = true) (a : Nat) (ha : a < g.nodes.length) : g.nodes[a].ok g.nodes.length = true := by
  simp only [RGr.ok, Bool.and_eq_true] at h
  exact List.all_eq_true.1 h.2.2 _ (List.getElem_mem ha)
theorem reachU_ok {g : RGr} {x : Nat} (h : x ∈ g.reachU) : g.ok = true := by
  unfold RGr.reachU at h
  by_cases e : g.ok = true
  · exact e
  · rw [if_neg e] at h; cases h
end Go.Proofs.Ytnhdgndjpkdhdaa
