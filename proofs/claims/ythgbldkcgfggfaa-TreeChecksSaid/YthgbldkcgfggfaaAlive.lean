/-
  trefoillaw02.alive: the document's example.
-/
import Derived.Test.YthgbldkcgfggfaaSame9
import Derived.Test.YthgbldkcgfggfaaValue
import Derived.Test.YthgbldkcgfggfaaTypeOf
namespace Go.Proofs.Ythgbldkcgfggfaa
open Go.RowKit

def aF : Ex := .mk 1 ⟨#[102]⟩ 0 [] [] [] []
def aX : Ex := .mk 1 ⟨#[120]⟩ 0 [] [] [] []
def aY : Ex := .mk 1 ⟨#[121]⟩ 0 [] [] [] []
def aI : Ex := .mk 7 ⟨#[]⟩ 0 [aF, aX] [] [] []
def aE : Ex := .mk 7 ⟨#[]⟩ 0 [aI, aY] [] [] []

theorem aX_V (w : World) (S : Nat → Prop) : ExV w S aX (.agg #[.int .i64 1, .string ⟨#[120]⟩, .int .i64 0, .slice none 0 0, .slice none 0 0, .slice none 0 0, .slice none 0 0]) := by
  simp only [aX, ExV]
  exact ⟨none, 0, none, 0, none, 0, none, 0, rfl, by simp [maxLen, ByteArray.size], Nat.zero_le _, Nat.zero_le _, Nat.zero_le _, Nat.zero_le _, Nat.zero_le _, Nat.zero_le _, Nat.zero_le _, Nat.zero_le _, by simp [ExsO], by simp [StrsO], by simp [TysO], by simp [MmsO]⟩
theorem aF_V (w : World) (S : Nat → Prop) : ExV w S aF (.agg #[.int .i64 1, .string ⟨#[102]⟩, .int .i64 0, .slice none 0 0, .slice none 0 0, .slice none 0 0, .slice none 0 0]) := by
  simp only [aF, ExV]
  exact ⟨none, 0, none, 0, none, 0, none, 0, rfl, by simp [maxLen, ByteArray.size], Nat.zero_le _, Nat.zero_le _, Nat.zero_le _, Nat.zero_le _, Nat.zero_le _, Nat.zero_le _, Nat.zero_le _, Nat.zero_le _, by simp [ExsO], by simp [StrsO], by simp [TysO], by simp [MmsO]⟩
theorem aY_V (w : World) (S : Nat → Prop) : ExV w S aY (.agg #[.int .i64 1, .string ⟨#[121]⟩, .int .i64 0, .slice none 0 0, .slice none 0 0, .slice none 0 0, .slice none 0 0]) := by
  simp only [aY, ExV]
  exact ⟨none, 0, none, 0, none, 0, none, 0, rfl, by simp [maxLen, ByteArray.size], Nat.zero_le _, Nat.zero_le _, Nat.zero_le _, Nat.zero_le _, Nat.zero_le _, Nat.zero_le _, Nat.zero_le _, Nat.zero_le _, by simp [ExsO], by simp [StrsO], by simp [TysO], by simp [MmsO]⟩

theorem new_at (w : World) (o : Obj) (n : Nat) (h : n = w.heap.size) : (w.alloc o).heap[n]? = some o := h ▸ heap_alloc_new w o

set_option maxRecDepth 100000 in
set_option maxHeartbeats 4000000 in
theorem alive_any (w : World) : Calls Try.prog 9 #[] w fun e w' => e = .returned (.bool true) ∧ Below w.heap.size w w' := by
  go_enter Try.func9, Try.ntmps9
  go_wp2_with fail
  obtain ⟨wB, hwB⟩ : ∃ wB, wB = ((((((w.alloc (.cells #[.int .i64 1, .string ⟨#[102]⟩, .int .i64 0, .slice none 0 0, .slice none 0 0, .slice none 0 0, .slice none 0 0] 31)).alloc (.cells #[.int .i64 1, .string ⟨#[120]⟩, .int .i64 0, .slice none 0 0, .slice none 0 0, .slice none 0 0, .slice none 0 0] 31)).alloc (.cells #[.int .i64 1, .string ⟨#[121]⟩, .int .i64 0, .slice none 0 0, .slice none 0 0, .slice none 0 0, .slice none 0 0] 31)).alloc (.cells #[.int .i64 1, .string ⟨#[102]⟩, .int .i64 0, .slice none 0 0, .slice none 0 0, .slice none 0 0, .slice none 0 0, .int .i64 1, .string ⟨#[120]⟩, .int .i64 0, .slice none 0 0, .slice none 0 0, .slice none 0 0, .slice none 0 0] 31)).alloc (.cells #[.int .i64 7, .string ⟨#[]⟩, .int .i64 0, .slice (some ⟨w.heap.size + 1 + 1 + 1, 0, none⟩) 2 2, .slice none 0 0, .slice none 0 0, .slice none 0 0, .int .i64 1, .string ⟨#[121]⟩, .int .i64 0, .slice none 0 0, .slice none 0 0, .slice none 0 0, .slice none 0 0] 31)).alloc (.cells #[.int .i64 7, .string ⟨#[]⟩, .int .i64 0, .slice (some ⟨w.heap.size + 1 + 1 + 1 + 1, 0, none⟩) 2 2, .slice none 0 0, .slice none 0 0, .slice none 0 0] 31)) := ⟨_, rfl⟩
  have hBz : wB.heap.size = w.heap.size + 6 := by rw [hwB]; simp
  have hb1 : wB.heap[w.heap.size + 1]? = some (.cells #[.int .i64 1, .string ⟨#[120]⟩, .int .i64 0, .slice none 0 0, .slice none 0 0, .slice none 0 0, .slice none 0 0] 31 (0, 0)) := by
    rw [hwB]; repeat (first | (refine new_at _ _ _ ?_; (· (first | omega | (simp <;> omega) | (dsimp only; omega)))) | (refine (Below.heap_alloc _ _ _ ?_).trans ?_; (· (first | omega | (simp <;> omega) | (dsimp only; omega)))))
  have hb3 : wB.heap[w.heap.size + 1 + 1 + 1]? = some (.cells #[.int .i64 1, .string ⟨#[102]⟩, .int .i64 0, .slice none 0 0, .slice none 0 0, .slice none 0 0, .slice none 0 0, .int .i64 1, .string ⟨#[120]⟩, .int .i64 0, .slice none 0 0, .slice none 0 0, .slice none 0 0, .slice none 0 0] 31 (0, 0)) := by
    rw [hwB]; repeat (first | (refine new_at _ _ _ ?_; (· (first | omega | (simp <;> omega) | (dsimp only; omega)))) | (refine (Below.heap_alloc _ _ _ ?_).trans ?_; (· (first | omega | (simp <;> omega) | (dsimp only; omega)))))
  have hb4 : wB.heap[w.heap.size + 1 + 1 + 1 + 1]? = some (.cells #[.int .i64 7, .string ⟨#[]⟩, .int .i64 0, .slice (some ⟨w.heap.size + 1 + 1 + 1, 0, none⟩) 2 2, .slice none 0 0, .slice none 0 0, .slice none 0 0, .int .i64 1, .string ⟨#[121]⟩, .int .i64 0, .slice none 0 0, .slice none 0 0, .slice none 0 0, .slice none 0 0] 31 (0, 0)) := by
    rw [hwB]; repeat (first | (refine new_at _ _ _ ?_; (· (first | omega | (simp <;> omega) | (dsimp only; omega)))) | (refine (Below.heap_alloc _ _ _ ?_).trans ?_; (· (first | omega | (simp <;> omega) | (dsimp only; omega)))))
  have hb5 : wB.heap[w.heap.size + 1 + 1 + 1 + 1 + 1]? = some (.cells #[.int .i64 7, .string ⟨#[]⟩, .int .i64 0, .slice (some ⟨w.heap.size + 1 + 1 + 1 + 1, 0, none⟩) 2 2, .slice none 0 0, .slice none 0 0, .slice none 0 0] 31 (0, 0)) := by
    rw [hwB]; repeat (first | (refine new_at _ _ _ ?_; (· (first | omega | (simp <;> omega) | (dsimp only; omega)))) | (refine (Below.heap_alloc _ _ _ ?_).trans ?_; (· (first | omega | (simp <;> omega) | (dsimp only; omega)))))
  have hHV : ∀ W, Below wB.heap.size wB W → ExV W (fun k => k = w.heap.size + 3 ∨ k = w.heap.size + 4) aE (.agg #[.int .i64 7, .string ⟨#[]⟩, .int .i64 0, .slice (some ⟨w.heap.size + 1 + 1 + 1 + 1, 0, none⟩) 2 2, .slice none 0 0, .slice none 0 0, .slice none 0 0]) := by
    intro W hW
    have r3 := (hW.block _ (by omega)).trans hb3
    have r4 := (hW.block _ (by omega)).trans hb4
    have hI : ExV W (fun k => k = w.heap.size + 3 ∨ k = w.heap.size + 4) aI (.agg #[.int .i64 7, .string ⟨#[]⟩, .int .i64 0, .slice (some ⟨w.heap.size + 1 + 1 + 1, 0, none⟩) 2 2, .slice none 0 0, .slice none 0 0, .slice none 0 0]) := by
      simp only [aI, ExV]
      refine ⟨_, 2, none, 0, none, 0, none, 0, rfl, by simp [maxLen, ByteArray.size], by simp, by simp [maxLen], Nat.zero_le _, Nat.zero_le _, Nat.zero_le _, Nat.zero_le _, Nat.zero_le _, Nat.zero_le _, ?_, by simp [StrsO], by simp [TysO], by simp [MmsO]⟩
      unfold ExsO
      refine ⟨_, 0, _, rfl, .inl rfl, cellsAt_of r3 ?_, aF_V W _, ?_⟩
      · intro j u hu
        rcases j with _ | _ | _ | _ | _ | _ | _ | j <;> simp_all [Value.cells]
      · unfold ExsO
        refine ⟨_, 7, _, rfl, .inl rfl, cellsAt_of r3 ?_, aX_V W _, by unfold ExsO; trivial⟩
        intro j u hu
        rcases j with _ | _ | _ | _ | _ | _ | _ | j <;> simp_all [Value.cells]
    simp only [aE, ExV]
    refine ⟨_, 2, none, 0, none, 0, none, 0, rfl, by simp [maxLen, ByteArray.size], by simp, by simp [maxLen], Nat.zero_le _, Nat.zero_le _, Nat.zero_le _, Nat.zero_le _, Nat.zero_le _, Nat.zero_le _, ?_, by simp [StrsO], by simp [TysO], by simp [MmsO]⟩
    unfold ExsO
    refine ⟨_, 0, _, rfl, .inr rfl, cellsAt_of r4 ?_, hI, ?_⟩
    · intro j u hu
      rcases j with _ | _ | _ | _ | _ | _ | _ | j <;> simp_all [Value.cells]
    · unfold ExsO
      refine ⟨_, 7, _, rfl, .inr rfl, cellsAt_of r4 ?_, aY_V W _, by unfold ExsO; trivial⟩
      intro j u hu
      rcases j with _ | _ | _ | _ | _ | _ | _ | j <;> simp_all [Value.cells]
  have hcell : ∀ W, Below wB.heap.size wB W → (∀ j, W.cell? ⟨w.heap.size + 1 + 1 + 1 + 1 + 1, j, none⟩ = (#[.int .i64 7, .string ⟨#[]⟩, .int .i64 0, .slice (some ⟨w.heap.size + 1 + 1 + 1 + 1, 0, none⟩) 2 2, .slice none 0 0, .slice none 0 0, .slice none 0 0] : Array Value)[j]?) ∧ (∀ j, W.cell? ⟨w.heap.size + 1, j, none⟩ = (#[.int .i64 1, .string ⟨#[120]⟩, .int .i64 0, .slice none 0 0, .slice none 0 0, .slice none 0 0, .slice none 0 0] : Array Value)[j]?) := by
    exact fun W hW => ⟨fun j => cell_of_row W _ j _ _ _ ((hW.block _ (by omega)).trans hb5), fun j => cell_of_row W _ j _ _ _ ((hW.block _ (by omega)).trans hb1)⟩
  have hS : ∀ W, Below wB.heap.size wB W → ∀ k, (k = w.heap.size + 3 ∨ k = w.heap.size + 4) → k < W.heap.size := fun W hW k hk => by have := hW.size; omega
  have HV := Lib.hid hHV
  have HC := Lib.hid hcell
  have HS := Lib.hid hS
  have HBw : Hid (Below w.heap.size w wB) := Lib.hid (by
    rw [hwB]
    repeat (first | exact Below.refl _ _ | (refine Below.alloc ?_ ?_ _; rotate_left; (· simp <;> omega))))
  rw [← hwB]
  clear hHV hcell hS hwB hBz hb1 hb3 hb4 hb5
  refine (size_any wB _ aE _ (HS.out _ (Below.refl _ _)) (HV.out _ (Below.refl _ _)) (by decide)).mono ?_
  rintro e w1 ⟨rfl, hb1⟩
  obtain ⟨hc1, hx1⟩ := HC.out w1 hb1
  rw [show aE.size = 5 by decide]
  have HB1 := Lib.hid hb1
  clear hb1
  go_wp2_with fail
  refine (deep_any w1 _ aE _ (HS.out _ HB1.out) (HV.out _ HB1.out) (by decide)).mono ?_
  rintro e w2 ⟨rfl, hb2⟩
  have HB2 := Lib.hid (HB1.out.trans (hb2.mono HB1.out.size))
  clear hb2 hc1 hx1
  obtain ⟨hc2, hx2⟩ := HC.out w2 HB2.out
  rw [show aE.deep = 3 by decide]
  go_wp2_with fail
  refine (check_any w2 _ aE _ (HS.out _ HB2.out) (HV.out _ HB2.out) (by decide) (by decide)).mono ?_
  rintro e w3 ⟨rfl, hb3⟩
  have HB3 := Lib.hid (HB2.out.trans (hb3.mono HB2.out.size))
  clear hb3 hc2 hx2
  obtain ⟨hc3, hx3⟩ := HC.out w3 HB3.out
  rw [show checkCode aE = 0 by decide]
  go_wp2_with fail
  refine (value_any w3 (fun _ => False) aX _ (fun _ h => h.elim) (aX_V _ _) (by decide)).mono ?_
  rintro e w4 ⟨rfl, hb4⟩
  have HB4 := Lib.hid (HB3.out.trans (hb4.mono HB3.out.size))
  clear hb4 hc3 hx3
  obtain ⟨hc4, hx4⟩ := HC.out w4 HB4.out
  rw [show aX.value = true by decide]
  go_wp2_with fail
  refine (value_any w4 _ aE _ (HS.out _ HB4.out) (HV.out _ HB4.out) (by decide)).mono ?_
  rintro e w5 ⟨rfl, hb5⟩
  have HB5 := Lib.hid (HB4.out.trans (hb5.mono HB4.out.size))
  clear hb5 hc4 hx4
  obtain ⟨hc5, hx5⟩ := HC.out w5 HB5.out
  rw [show aE.value = false by decide]
  go_wp2_with fail
  refine (same_any w5 _ _ aE aE _ _ (HS.out _ HB5.out) (HS.out _ HB5.out) (HV.out _ HB5.out) (HV.out _ HB5.out) (by decide) (by decide) (by decide) true (by simp)).mono ?_
  rintro e w6 ⟨rfl, hb6⟩
  have HB6 := Lib.hid (HB5.out.trans (hb6.mono HB5.out.size))
  clear hb6 hc5 hx5
  go_wp2
  go_ret
  exact ⟨rfl, HBw.out.trans (HB6.out.mono HBw.out.size)⟩

end Go.Proofs.Ythgbldkcgfggfaa
