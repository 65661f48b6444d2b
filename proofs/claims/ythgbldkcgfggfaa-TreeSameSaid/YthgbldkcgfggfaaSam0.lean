/-
  trefoillaw02.TreeSame: the loop that puts objects around the type.
-/
import Derived.Test.YthgbldkcgfggfaaTypes2
import Derived.Test.YthgbldkcgfggfaaRSame3
import Derived.Test.YthgbldkcgfggfaaRCheckT
namespace Go.Proofs.Ythgbldkcgfggfaa
open Go.RowKit

/-- A type, as the one method's type of an object, k times. -/
def objN : Nat → Ty → Ty
  | 0, t => t
  | k + 1, t => .mk 3 ⟨#[]⟩ [objN k t] [⟨#[109]⟩] false
theorem objN_size (k : Nat) (t : Ty) : (objN k t).size = t.size + k := by
  induction k with
  | zero => rfl
  | succ k ih => simp only [objN, Ty.size, Ty.sizes, ih]; omega

/-- The loop that puts an object around the type. -/
structure ObjInv (wB wr : World) (B : Nat) (t0 : Ty) (k : Nat) (v1 v2 v3 v4 v5 : Value) : Prop where
  keeps : Keeps (fun j => j = B) wB wr
  cell : wr.heap[B]? = some (.cells #[v1, v2, v3, v4, v5] 42 (0, 0))
  val : TyV wr (fun j => j < wr.heap.size ∧ j ≠ B) (objN k t0) (.agg #[v1, v2, v3, v4, v5])

theorem ObjInv.next {wB wr W : World} {B G L : Nat} {t0 : Ty} {k : Nat} {v1 v2 v3 v4 v5 : Value} {tl : TypeId} (h : ObjInv wB wr B t0 k v1 v2 v3 v4 v5)
    (hk : Keeps (fun j => j = B) wr W) (hc : W.heap[B]? = some (.cells #[.int .i64 3, .string ⟨#[]⟩, .slice (some ⟨G, 0, none⟩) 1 1, .slice (some ⟨L, 0, none⟩) 1 1, .bool false] 42 (0, 0)))
    (hG : wr.heap.size ≤ G) (hL : wr.heap.size ≤ L) (hcG : W.heap[G]? = some (.cells #[v1, v2, v3, v4, v5] 42 (0, 0))) (hcL : W.heap[L]? = some (.cells #[.string ⟨#[109]⟩] tl (0, 0))) :
    ObjInv wB W B t0 (k + 1) (.int .i64 3) (.string ⟨#[]⟩) (.slice (some ⟨G, 0, none⟩) 1 1) (.slice (some ⟨L, 0, none⟩) 1 1) (.bool false) := by
  have hB : B < wr.heap.size := (Array.getElem?_eq_some_iff.1 h.cell).1
  have hG2 : G < W.heap.size := (Array.getElem?_eq_some_iff.1 hcG).1
  have hL2 : L < W.heap.size := (Array.getElem?_eq_some_iff.1 hcL).1
  have hz := hk.size
  refine ⟨h.keeps.trans hk, hc, ?_⟩
  unfold objN TyV
  refine ⟨_, 1, _, 1, rfl, by decide, Nat.le_refl _, by decide, Nat.le_refl _, by decide, ?_, strs_one W _ L ⟨hL2, by omega⟩ _ (by decide) _ hcL⟩
  unfold TysO
  refine ⟨_, 0, _, rfl, ⟨hG2, by omega⟩, cellsAt_of hcG ?_, TyV.keep (fun j hj => ⟨⟨by have := hj.1; omega, hj.2⟩, hk.block j hj.1 hj.2⟩) _ _ h.val, by unfold TysO; trivial⟩
  intro j u hu
  simpa [Value.cells] using hu

theorem ObjInv.step {wB wr : World} {B : Nat} {t0 : Ty} {k : Nat} {v1 v2 v3 v4 v5 : Value} (h : ObjInv wB wr B t0 k v1 v2 v3 v4 v5) :
    ObjInv wB (((((((wr.setCell ⟨B, 0, none⟩ (.int .i64 3)).setCell ⟨B, 1, none⟩ (.string ⟨#[]⟩)).setCell ⟨B, 2, none⟩ (.slice (some ⟨wr.heap.size + 1, 0, none⟩) 1 1)).setCell ⟨B, 3, none⟩ (.slice (some ⟨wr.heap.size, 0, none⟩) 1 1)).setCell ⟨B, 4, none⟩ (.bool false)).alloc (.cells #[.string ⟨#[109]⟩] 9)).alloc (.cells #[v1, v2, v3, v4, v5] 42)) B t0 (k + 1) (.int .i64 3) (.string ⟨#[]⟩) (.slice (some ⟨wr.heap.size + 1, 0, none⟩) 1 1) (.slice (some ⟨wr.heap.size, 0, none⟩) 1 1) (.bool false) := by
  have hB : B < wr.heap.size := (Array.getElem?_eq_some_iff.1 h.cell).1
  have k2 := (Keeps.refl (fun j => j = B) wr).setCell (p := ⟨B, 0, none⟩) (fun _ => rfl) (.int .i64 3)
  have k3 := k2.setCell (p := ⟨B, 1, none⟩) (fun _ => rfl) (.string ⟨#[]⟩)
  have k4 := k3.setCell (p := ⟨B, 2, none⟩) (fun _ => rfl) (.slice (some ⟨wr.heap.size + 1, 0, none⟩) 1 1)
  have k5 := k4.setCell (p := ⟨B, 3, none⟩) (fun _ => rfl) (.slice (some ⟨wr.heap.size, 0, none⟩) 1 1)
  have k6 := k5.setCell (p := ⟨B, 4, none⟩) (fun _ => rfl) (.bool false)
  have k7 := (k6.alloc (.cells #[.string ⟨#[109]⟩] 9)).alloc (.cells #[v1, v2, v3, v4, v5] 42)
  have hset := tblk_set _ _ _ _ _ _ _ _ (.int .i64 3) (.string ⟨#[]⟩) (.slice (some ⟨wr.heap.size + 1, 0, none⟩) 1 1) (.slice (some ⟨wr.heap.size, 0, none⟩) 1 1) (.bool false) h.cell
  exact h.next k7 ((heap_past _ _ _ (by simp [World.setCell]; omega)).trans ((heap_past _ _ _ (by simp [World.setCell]; omega)).trans hset)) (by omega) (by omega) (heap_at _ _ _ (by simp [World.setCell])) ((heap_past _ _ _ (by simp [World.setCell])).trans (heap_at _ _ _ (by simp [World.setCell])))

end Go.Proofs.Ythgbldkcgfggfaa
