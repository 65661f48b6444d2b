/-
  gen.Generic.
-/
import Derived.Test.YtnhdgndjpkdhdaaNFix
namespace Go.Proofs.Ytnhdgndjpkdhdaa
open Go.RowKit Go.Shelf Go.Sort

set_option maxRecDepth 100000 in
set_option maxHeartbeats 2000000 in
theorem generic2_r (w : World) (S S2 : Nat → Prop) (g : RGr) (gv : Value) (M : List Int) (mA : Option Addr) (mc : Nat) (hS : ∀ k, S k → k < w.heap.size) (he : GrV w S g gv)
    (hS2 : ∀ k, S2 k → k < w.heap.size) (hI : IntsO w S2 M mA) (hmc : M.length ≤ mc) (hmm : mc ≤ maxLen) :
    Calls Try.prog 11 #[gv, .slice mA M.length mc] w fun e w' => ∃ A c, e = .returned (.tuple #[.slice A (g.genU M).length c, .int .i64 (g.mcode M)]) ∧ (g.genU M).length ≤ c ∧ c ≤ maxLen ∧ IntsO w' (fun k => w.heap.size ≤ k ∧ k < w'.heap.size) ((g.genU M).map Int.ofNat) A ∧ Below w.heap.size w w' := by
  obtain ⟨A, cN, hgv, hcN, hcN9, oN⟩ := he
  subst hgv
  obtain ⟨w1, hw1⟩ : ∃ w1, w1 = w.alloc (.cells #[.slice A g.nodes.length cN, .int .i64 g.root] 24) := ⟨_, rfl⟩
  have hsz1 : w1.heap.size = w.heap.size + 1 := by rw [hw1]; simp
  have hb1 : Below w.heap.size w w1 := by rw [hw1]; exact (Below.refl _ _).alloc (Nat.le_refl _) _
  have hq1 : Blk w1 w.heap.size (.cells #[.slice A g.nodes.length cN, .int .i64 g.root] 24 (0, 0)) := by rw [hw1]; exact Blk.new' _ _ _ rfl
  have hz1 : ∀ k, S k → k < w1.heap.size := fun k hk => by have := hS k hk; omega
  have hz2 : ∀ k, S2 k → k < w1.heap.size := fun k hk => by have := hS2 k hk; omega
  have hA1 : NdsO w1 S g.nodes A := NdsO.keep (fun k hk => ⟨hk, hb1.block k (hS k hk)⟩) _ _ oN
  have hI1 : IntsO w1 S2 M mA := IntsO.keep (fun k hk => ⟨hk, hb1.block k (hS2 k hk)⟩) _ _ hI
  have hck := mcheck_r w1 S S2 g _ M mA mc hz1 ⟨A, cN, rfl, hcN, hcN9, hA1⟩ hz2 hI1 hmc hmm
  have hcell : ∀ W, Below w1.heap.size w1 W → W.cell? ⟨w.heap.size, 0, none⟩ = some (.slice A g.nodes.length cN) ∧ W.cell? ⟨w.heap.size, 1, none⟩ = some (.int .i64 g.root) := fun W hW =>
    ⟨(hW.cell (p := ⟨w.heap.size, 0, none⟩) (by simp only; omega)).trans (hq1.cells.1 0), (hW.cell (p := ⟨w.heap.size, 1, none⟩) (by simp only; omega)).trans (hq1.cells.1 1)⟩
  have HCk := Lib.hid hck
  have HC := Lib.hid hcell
  have HB1 := Lib.hid hb1
  have HA1 := Lib.hid hA1
  have HI1 := Lib.hid hI1
  have HZ1 := Lib.hid hz1
  have HZ2 := Lib.hid hz2
  obtain ⟨c00, c01⟩ := (⟨hq1.cells.1 0, hq1.cells.1 1⟩ : w1.cell? ⟨w.heap.size, 0, none⟩ = some (.slice A g.nodes.length cN) ∧ w1.cell? ⟨w.heap.size, 1, none⟩ = some (.int .i64 g.root))
  clear hS hS2 hI oN hA1 hI1 hck hcell hb1 hq1 hz1 hz2
  by_cases hcd : g.mcode M = 0
  · obtain ⟨hok, hmo⟩ := mcode_ok hcd
    obtain ⟨hMe, hMl⟩ := mono_nat hmo
    have hN := RGr.ok_len hok
    have hU : g.genU M = g.genL (M.map Int.toNat) := by unfold RGr.genU; rw [if_pos hcd]
    rw [hcd, hU]
    rw [hcd] at HCk
    obtain ⟨Mn, hMn⟩ : ∃ Mn, Mn = M.map Int.toNat := ⟨_, rfl⟩
    rw [← hMn] at hMl hMe ⊢
    have hlen : M.length = Mn.length := by rw [hMn, List.length_map]
    have hge : ∀ W, Below w1.heap.size w1 W → Calls Try.prog 29 #[.agg #[.slice A g.nodes.length cN, .int .i64 g.root], .slice mA M.length mc] W fun e w' => ∃ A c, e = .returned (.slice A (g.genL Mn).length c) ∧ (g.genL Mn).length ≤ c ∧ c ≤ maxLen ∧ IntsO w' (fun k => W.heap.size ≤ k ∧ k < w'.heap.size) ((g.genL Mn).map Int.ofNat) A ∧ Below W.heap.size W w' := fun W hW => by
      rw [hlen]
      exact generic_r W S S2 g _ Mn mA mc hok (fun k hk => Nat.lt_of_lt_of_le (HZ1.out k hk) hW.size) ⟨A, cN, rfl, hcN, hcN9, NdsO.keep (fun k hk => ⟨hk, hW.block k (HZ1.out k hk)⟩) _ _ HA1.out⟩ hMl (fun k hk => Nat.lt_of_lt_of_le (HZ2.out k hk) hW.size) (by rw [← hMe]; exact IntsO.keep (fun k hk => ⟨hk, hW.block k (HZ2.out k hk)⟩) _ _ HI1.out) (by omega) hmm
    have HGe := Lib.hid hge
    unfold maxLen at hcN9 hmm
    clear hge hok hmo hMl hMe hMn hU hcd hlen
    go_enter Try.func11, Try.ntmps11
    go_wp2_with fail
    rw [← hw1]
    clear hw1
    with_reducible refine HCk.out.mono ?_
    rintro e w2 ⟨rfl, hb2⟩
    obtain ⟨c20, c21⟩ := HC.out w2 hb2
    have hge2 := HGe.out w2 hb2
    have HGe2 := Lib.hid hge2
    have HB2 := Lib.hid hb2
    have hz12 := hb2.size
    clear hb2 hge2 c00 c01 HGe HCk
    go_wp2_with fail
    with_reducible refine HGe2.out.mono ?_
    rintro e w3 ⟨A3, c3, rfl, g1, g2, g3, g4⟩
    have G3 := Lib.hid g3
    have G4 := Lib.hid g4
    clear g3 g4
    go_wp2
    go_ret2
    exact ⟨A3, c3, rfl, g1, g2, IntsO.keep (fun k hk => ⟨⟨by omega, hk.2⟩, rfl⟩) _ _ G3.out, HB1.out.trans ((HB2.out.trans (G4.out.mono hz12)).mono (by omega))⟩
  · have hU : g.genU M = [] := by unfold RGr.genU; rw [if_neg hcd]
    rw [hU]
    obtain ⟨cd, hcde⟩ : ∃ cd, cd = g.mcode M := ⟨_, rfl⟩
    rw [← hcde] at hcd HCk ⊢
    unfold maxLen at hcN9 hmm
    clear hcde hU
    go_enter Try.func11, Try.ntmps11
    go_wp2_with fail
    rw [← hw1]
    clear hw1
    with_reducible refine HCk.out.mono ?_
    rintro e w2 ⟨rfl, hb2⟩
    have HB2 := Lib.hid hb2
    clear hb2
    go_wp2
    go_ret2
    exact ⟨none, 0, rfl, Nat.le_refl _, Nat.zero_le _, trivial, HB1.out.trans (HB2.out.mono (by omega))⟩
end Go.Proofs.Ytnhdgndjpkdhdaa
