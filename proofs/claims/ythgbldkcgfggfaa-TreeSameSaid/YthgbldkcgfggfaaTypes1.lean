/-
  trefoillaw02.TreeTypes: the walk up to what it compares.
-/
import Derived.Test.YthgbldkcgfggfaaTypes
namespace Go.Proofs.Ythgbldkcgfggfaa
open Go.RowKit

/-- The loop that puts as around the type. -/
structure AsInv (wB wr : World) (B : Nat) (t0 : Ty) (k : Nat) (v1 v2 v3 v4 v5 : Value) : Prop where
  keeps : Keeps (fun j => j = B) wB wr
  cell : wr.heap[B]? = some (.cells #[v1, v2, v3, v4, v5] 42 (0, 0))
  val : TyV wr (fun j => j < wr.heap.size ∧ j ≠ B) (asN k t0) (.agg #[v1, v2, v3, v4, v5])

theorem tblk_set (w : World) (g : Nat) (t : TypeId) (a b c d e x1 x2 x3 x4 x5 : Value) (h : w.heap[g]? = some (.cells #[a, b, c, d, e] t (0, 0))) :
    (((((w.setCell ⟨g, 0, none⟩ x1).setCell ⟨g, 1, none⟩ x2).setCell ⟨g, 2, none⟩ x3).setCell ⟨g, 3, none⟩ x4).setCell ⟨g, 4, none⟩ x5).heap[g]? = some (.cells #[x1, x2, x3, x4, x5] t (0, 0)) := by
  simp [World.setCell, Array.getElem?_modify, h]

theorem AsInv.next {wB wr : World} {B : Nat} {t0 : Ty} {k : Nat} {v1 v2 v3 v4 v5 : Value} (h : AsInv wB wr B t0 k v1 v2 v3 v4 v5) :
    AsInv wB ((((((wr.setCell ⟨B, 0, none⟩ (.int .i64 4)).setCell ⟨B, 1, none⟩ (.string ⟨#[97]⟩)).setCell ⟨B, 2, none⟩ (.slice (some ⟨wr.heap.size, 0, none⟩) 1 1)).setCell ⟨B, 3, none⟩ (.slice none 0 0)).setCell ⟨B, 4, none⟩ (.bool false)).alloc (.cells #[v1, v2, v3, v4, v5] 42)) B t0 (k + 1)
      (.int .i64 4) (.string ⟨#[97]⟩) (.slice (some ⟨wr.heap.size, 0, none⟩) 1 1) (.slice none 0 0) (.bool false) := by
  have hB : B < wr.heap.size := (Array.getElem?_eq_some_iff.1 h.cell).1
  have k2 := (Keeps.refl (fun j => j = B) wr).setCell (p := ⟨B, 0, none⟩) (fun _ => rfl) (.int .i64 4)
  have k3 := k2.setCell (p := ⟨B, 1, none⟩) (fun _ => rfl) (.string ⟨#[97]⟩)
  have k4 := k3.setCell (p := ⟨B, 2, none⟩) (fun _ => rfl) (.slice (some ⟨wr.heap.size, 0, none⟩) 1 1)
  have k5 := k4.setCell (p := ⟨B, 3, none⟩) (fun _ => rfl) (.slice none 0 0)
  have k5' := k5.setCell (p := ⟨B, 4, none⟩) (fun _ => rfl) (.bool false)
  have k6 := k5'.alloc (.cells #[v1, v2, v3, v4, v5] 42)
  have hset := (heap_past _ (.cells #[v1, v2, v3, v4, v5] 42) _ (by simp [World.setCell]; omega)).trans (tblk_set _ _ _ _ _ _ _ _ (.int .i64 4) (.string ⟨#[97]⟩) (.slice (some ⟨wr.heap.size, 0, none⟩) 1 1) (.slice none 0 0) (.bool false) h.cell)
  have hnew : ((((((wr.setCell ⟨B, 0, none⟩ (.int .i64 4)).setCell ⟨B, 1, none⟩ (.string ⟨#[97]⟩)).setCell ⟨B, 2, none⟩ (.slice (some ⟨wr.heap.size, 0, none⟩) 1 1)).setCell ⟨B, 3, none⟩ (.slice none 0 0)).setCell ⟨B, 4, none⟩ (.bool false)).alloc (.cells #[v1, v2, v3, v4, v5] 42)).heap[wr.heap.size]? = some (.cells #[v1, v2, v3, v4, v5] 42 (0, 0)) := heap_at _ _ _ (by simp [World.setCell])
  refine ⟨h.keeps.trans k6, hset, ?_⟩
  unfold asN TyV
  refine ⟨_, 1, none, 0, rfl, by decide, Nat.le_refl _, by decide, Nat.le_refl _, Nat.zero_le _, ?_, by unfold StrsO; trivial⟩
  unfold TysO
  refine ⟨_, 0, _, rfl, ⟨by simp [World.setCell], by omega⟩, cellsAt_of hnew ?_, TyV.keep (fun j hj => ⟨⟨?_, hj.2⟩, k6.block j hj.1 hj.2⟩) _ _ h.val, by unfold TysO; trivial⟩
  · intro j u hu
    simpa [Value.cells] using hu
  · have := hj.1
    simp [World.setCell]
    omega

end Go.Proofs.Ythgbldkcgfggfaa
